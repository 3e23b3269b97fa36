/- Ways that meet again, calls that panic; ranges over functions, a round of which may leave early; regions that draw their order, by resources, with a tail; no Go in it. -/
import Derived.DefersIn
import Derived.RecoverIn
import Derived.Laws.OwnMore
import Derived.Lib.UnsafeStr
import Derived.MapKept
import Derived.Lib.AppendStr
import Derived.RangeFuncLeaves
import Derived.Test.YthjkhnhiciamaaaEt
set_option linter.unusedVariables false
set_option linter.unusedSimpArgs false
set_option linter.unusedSectionVars false
namespace Go.Proofs.Ythjkhnhiciamaaa
open Go.RowKit

/-! ### ways that meet again; panics -/
section
variable {ro : Option Nat} {P : Program} {Q : Exit → Act → World → Prop} {K : Act → World → Prop} {a : Act} {w w0 : World} {N i : Nat} {L : List (Nat × Value)} {Df : List Deferred} {B : List Own} {ch : List PanicEntry}
/-- a midpoint: whatever way x goes, it ends normally with mid, or leaves as it would -/
theorem c_join {x : Code} (mid : Act → World → Prop) (h : x.wpIn (FR ro) 0 P (Exit.then mid Q) a w) (hm : ∀ a w, mid a w → Q .normal a w) : x.wpIn (FR ro) 0 P Q a w :=
  wpIn_mono h fun e a w he => by cases e <;> first | exact hm _ _ he | exact he
theorem ru_makeIface {ρ : Operand → Value} {dst : Option Tmp} {ty : TypeId} {pos : String} {af : Array Edge} {g : Option (Nat × Bool)} {x : Operand} {t : TypeId} {V : Value} {s : TypeDesc} (ht : P.underlying t = some s) (hn : (match s with | .interface _ => false | _ => true) = true) (hx : ρ x = V) :
    RunsTo P ⟨dst, .makeInterface t x, ty, pos, af, g⟩ ρ (.iface t V) := fun w => by
  simp only [execOp, hx]
  cases s <;> simp_all [Instr.makeInterface, run_underlying ht, Result.andThen]
end

/-! ### a deferred closure that recovers -/
section
variable {P : Program} {a : Act} {w w0 : World} {N : Nat} {L : List (Nat × Value)} {Df : List Deferred} {B : List Own}
section
variable {ops : Array Oper} {Q : Exit → Act → List Frame → World → Prop} {cs : List Frame} {i : Nat} {rest : List Nat} {o : Oper} {V : Value} {w' : World}
end
end
/-! ### the door -/
section
variable {P : Program} {a : Act} {w w0 : World} {N : Nat} {L : List (Nat × Value)} {B : List Own} {fn : Func} {R : Ending → World → Prop}
end

/-! ### maps that the call makes: the block's entries as they stand -/
section
variable {P : Program} {ops : Array Oper} {Q : Act → World → Prop} {l : List Oper} {a : Act} {w w0 : World} {N : Nat} {L : List (Nat × Value)} {Df : List Deferred} {B : List Own} {d : Tmp} {ty : TypeId} {pos : String} {af : Array Edge} {x y z : Operand} {t : TypeId}
theorem s_makeMap (h : Sl N a L Df) (s : St w0 B w) (hd : Nat.blt d N = true) (k : ∀ a' w' b, Sl N a' ((d, .map (some b)) :: L) Df → St w0 (.blk b (.map #[] 0) :: B) w' → Lst P ops Q l a' w') :
    Lst P ops Q (⟨some d, .makeMap t none, ty, pos, af, none⟩ :: l) a w :=
  s_does h (R := fun v w' => v = .map (some w.heap.size) ∧ w' = w.alloc (.map #[] 0)) (by simp [Does, execOp, run_makeMap, Result.andThen]) hd fun a' w' v ⟨hv, hw⟩ h' => by
    subst hv; subst hw; exact k _ _ _ h' (s.new _)
theorem s_insert {kt et : TypeId} {kd : TypeDesc} {b : Nat} {es : Array MapEntry} {c : Nat} {K V : Value} (i : Nat) (h : Sl N a L Df) (s : St w0 B w) (ht : P.underlying t = some (.map kt et)) (hk : P.underlying kt = some kd) (hkd : MapKept.IsKey kd K)
    (hx : evo L x = some (.map (some b))) (hy : evo L y = some K) (hz : evo L z = some V) (hi : B[i]? = some (.blk b (.map es c))) (hf : Instr.findNow kd K es.toList 0 = some none)
    (k : ∀ w', St w0 (B.set i (.blk b (.map (es.push { key := K, val := V, born := c }) (c + 1)))) w' → Lst P ops Q l a w') : Lst P ops Q (⟨none, .insert t x y z, ty, pos, af, none⟩ :: l) a w := by
  have hb := s.get i hi
  have hrun : (Instr.mapUpdate t (.map (some b)) K V).run P w = .ok () (w.putObj b (.map (es.push { key := K, val := V, born := c }) (c + 1))) := by
    simp [Instr.mapUpdate, run_underlying ht, MapKept.run_getObj_map hb, MapKept.run_checkKey hk hkd, MapKept.run_findKey hk hf, MapKept.run_setObj_map _ hb, Result.andThen, World.putObj]
  refine s_doesN (R := fun v w' => w' = w.putObj b (.map (es.push { key := K, val := V, born := c }) (c + 1))) ?_ fun w' v hw => by subst hw; exact k _ (s.putObj i hi _)
  simp [Does, execOp, h.ev hx, h.ev hy, h.ev hz, hrun, Result.andThen]
/-- 'v, ok := m[k]' in a map of the call's own -/
theorem s_lookup {kt et : TypeId} {kd : TypeDesc} {b : Nat} {es : Array MapEntry} {c : Nat} {K Z V : Value} {ok : Bool} (i : Nat) (h : Sl N a L Df) (s : St w0 B w) (ht : P.underlying t = some (.map kt et)) (hk : P.underlying kt = some kd) (hkd : MapKept.IsKey kd K) (hZ : (P.info? et).bind (·.zero) = some Z)
    (hx : evo L x = some (.map (some b))) (hy : evo L y = some K) (hi : B[i]? = some (.blk b (.map es c)))
    (hf : (∃ j, Instr.findNow kd K es.toList 0 = some (some (j, V)) ∧ ok = true) ∨ (Instr.findNow kd K es.toList 0 = some none ∧ V = Z ∧ ok = false)) (hd : Nat.blt d N = true)
    (k : ∀ a', Sl N a' ((d, .tuple #[V, .bool ok]) :: L) Df → Lst P ops Q l a' w) : Lst P ops Q (⟨some d, .lookup t x y true, ty, pos, af, none⟩ :: l) a w := by
  have hb := s.get i hi
  have hzr : (zeroValue et).run P w = .ok Z w := by
    cases hi9 : P.info? et with
    | none => simp [hi9] at hZ
    | some info => simp [hi9] at hZ; simp [zeroValue, typeInfo, hi9, hZ, Result.andThen]
  have hrun : (Instr.lookup t (.map (some b)) K true).run P w = .ok (.tuple #[V, .bool ok]) w := by
    rcases hf with ⟨j, hf, rfl⟩ | ⟨hf, rfl, rfl⟩
    · simp [Instr.lookup, run_underlying ht, MapKept.run_getObj_map hb, MapKept.run_checkKey hk hkd, MapKept.run_findKey hk hf, Result.andThen]
    · simp [Instr.lookup, run_underlying ht, MapKept.run_getObj_map hb, MapKept.run_checkKey hk hkd, MapKept.run_findKey hk hf, hzr, Result.andThen]
  refine s_does h (R := fun v w' => v = .tuple #[V, .bool ok] ∧ w' = w) ?_ hd fun a' w' v ⟨hv, hw⟩ h' => by subst hv; subst hw; exact k _ h'
  simp [Does, execOp, h.ev hx, h.ev hy, hrun, Result.andThen]
end

/-! ### bytes that are made; a text over them -/
section
variable {P : Program} {ops : Array Oper} {Q : Act → World → Prop} {l : List Oper} {a : Act} {w w0 : World} {N : Nat} {L : List (Nat × Value)} {Df : List Deferred} {B : List Own} {d : Tmp} {ty : TypeId} {pos : String} {af : Array Edge} {x y : Operand} {t e : TypeId}
end

/-! ### a part of a block, stored at once -/
section
variable {P : Program} {ops : Array Oper} {Q : Act → World → Prop} {l : List Oper} {a : Act} {w w0 : World} {N : Nat} {L : List (Nat × Value)} {Df : List Deferred} {B : List Own} {d : Tmp} {ty : TypeId} {pos : String} {af : Array Edge} {x y : Operand} {t : TypeId} {fn : Func}
end

/-! ### append of a text's bytes -/
section
variable {P : Program} {ops : Array Oper} {Q : Act → World → Prop} {l : List Oper} {a : Act} {w w0 : World} {N : Nat} {L : List (Nat × Value)} {Df : List Deferred} {B : List Own} {d : Tmp} {ty : TypeId} {pos : String} {af : Array Edge} {x y : Operand} {t u e : TypeId}
end
theorem beq'_refl : ∀ B : List Own, BEq' B B
  | [] => trivial
  | _ :: r => ⟨rfl, beq'_refl r⟩
section
variable {P : Program} {ρ : Operand → Value} {d : Option Tmp} {ty : TypeId} {pos : String} {af : Array Edge} {g : Option (Nat × Bool)} {x y : Operand} {t t' : TypeId} {k : IntKind} {m n : Int}
end
end Go.Proofs.Ythjkhnhiciamaaa

namespace Go.Proofs.Ythjkhnhiciamaaa
open Go.RowKit
/-! ### ranges over functions, a round of which may leave early by 'ret' -/
section
variable {N : Nat} {a : Act} {L : List (Nat × Value)} {Df : List Deferred}
end
/-- the record's state and pending jump behind a round -/
def lst (q : Bool) : LoopState := bif q then .done else .ready
section
variable {P : Program} {fn : Func} {w w0 : World} {N : Nat} {a : Act} {L : List (Nat × Value)} {B : List Own}
end
end Go.Proofs.Ythjkhnhiciamaaa

namespace Go.Proofs.Ythjkhnhiciamaaa
open Go.RowKit
/-! ### A region that draws its order: THE LAW OF RESOURCES: each operation is handed what it uses up of the others' own memory (and a rest that it does not see), and hands out its own -/
/-- what is known of some operations' values (τ: a value, and maybe something beside it; π: the value of it) -/
def oMs {τ : Type} (d0 : τ) (l : List Nat) (val : Nat → τ) : Nat → τ := fun j => bif l.any (Nat.beq j) then val j else d0
def oUp {τ : Type} (val : Nat → τ) (i : Nat) (v : τ) : Nat → τ := fun j => bif Nat.beq j i then v else val j
theorem oMs_congr {τ : Type} {d0 : τ} {l : List Nat} {val val' : Nat → τ} (h : ∀ j ∈ l, val j = val' j) : oMs d0 l val = oMs d0 l val' := by
  funext j
  unfold oMs
  cases hb : l.any (Nat.beq j) with
  | false => rfl
  | true =>
    obtain ⟨x, hx, he⟩ := List.any_eq_true.1 hb
    obtain rfl : j = x := by simpa using he
    exact h j hx
theorem oUp_same {τ : Type} (val : Nat → τ) (i : Nat) (v : τ) : oUp val i v i = v := by unfold oUp; rw [show Nat.beq i i = true by simp]; rfl
theorem oUp_other {τ : Type} (val : Nat → τ) {i j : Nat} (v : τ) (h : j ≠ i) : oUp val i v j = val j := by
  unfold oUp
  cases hb : Nat.beq j i with
  | false => rfl
  | true => exact absurd (by simpa using hb) h
def setF (l : Nat → Bool) (i : Nat) : Nat → Bool := fun j => bif Nat.beq j i then true else l j
theorem blt_t {i j : Nat} (h : i < j) : Nat.blt i j = true := Nat.ble_eq_true_of_le h
theorem blt_f {i j : Nat} (h : j ≤ i) : Nat.blt i j = false := by
  cases hb : Nat.blt i j with
  | false => rfl
  | true => exact absurd (Nat.le_of_ble_eq_true hb) (by omega)
theorem not_has {l : List Nat} {j : Nat} : (!l.contains j) = true ↔ j ∉ l := by
  rw [Bool.not_eq_true', ← Bool.not_eq_true, List.contains_iff_mem]
/-- the block of a pointer -/
def pbk : Value → Nat
  | .pointer (some a) => a.block
  | _ => 0
section
variable (ops : List Oper) (cls cons : List (List Nat)) (q : Nat)
def okOneC (size i : Nat) (o : Oper) : Bool :=
  (direct o).all (fun j => decide (j < i)) &&
  (cls.getD i []).all (fun j => (direct o).contains j || (direct o).any fun k => (cls.getD k []).contains j) &&
  (match o.dst with | some d => decide (d < size) && (List.range ops.length).all (fun j => j == i || decide (dstOf ops j ≠ some d)) | none => true) &&
  ((o.looksAt ops.toArray).all fun t => (List.range ops.length).all fun j => decide (dstOf ops j ≠ some t) || (cls.getD i []).contains j || (cls.getD j []).contains i) &&
  (decide (cons.getD i []).Nodup && (cons.getD i []).all fun j => (decide (j < ops.length + q) && (decide (ops.length ≤ j) || (cls.getD i []).contains j)) && (List.range ops.length).all fun k => k == i || !(cons.getD k []).contains j)
def okRegC (size : Nat) : Bool := (List.range ops.length).all fun i => match ops[i]? with | some o => okOneC ops cls cons q size i o | none => false
end
section
variable {ops : List Oper} {cls cons : List (List Nat)} {q size : Nat}
theorem okC_at (h : okRegC ops cls cons q size = true) {i : Nat} {o : Oper} (hi : ops[i]? = some o) : okOneC ops cls cons q size i o = true := by
  unfold okRegC at h
  have hlt : i < ops.length := (List.getElem?_eq_some_iff.1 hi).1
  have := List.all_eq_true.1 h i (List.mem_range.2 hlt)
  simpa [hi] using this
theorem okC_direct (h : okRegC ops cls cons q size = true) {i : Nat} {o : Oper} (hi : ops[i]? = some o) :
    (∀ j ∈ direct o, j < i) ∧ ∀ j ∈ cls.getD i [], j ∈ direct o ∨ ∃ k ∈ direct o, j ∈ cls.getD k [] := by
  have := okC_at h hi
  unfold okOneC at this
  simp only [Bool.and_eq_true] at this
  refine ⟨fun j hj => by simpa using List.all_eq_true.1 this.1.1.1.1 j hj, fun j hj => ?_⟩
  have := List.all_eq_true.1 this.1.1.1.2 j hj
  simpa using this
theorem dst_lt {j : Nat} {t : Tmp} (hd : dstOf ops j = some t) : j < ops.length := by obtain ⟨o, ho, _⟩ := getD_lt hd; exact (List.getElem?_eq_some_iff.1 ho).1
theorem okC_dst (h : okRegC ops cls cons q size = true) {i : Nat} {d : Tmp} (hd : dstOf ops i = some d) : d < size ∧ ∀ j, dstOf ops j = some d → j = i := by
  obtain ⟨o, ho, hdo⟩ := getD_lt hd
  have := okC_at h ho
  unfold okOneC at this
  simp only [Bool.and_eq_true, hdo] at this
  have h2 := this.1.1.2
  simp only [decide_eq_true_eq] at h2
  refine ⟨h2.1, fun j hj => ?_⟩
  have := List.all_eq_true.1 h2.2 j (List.mem_range.2 (dst_lt hj))
  simpa [hj] using this
theorem okC_look (h : okRegC ops cls cons q size = true) {i : Nat} {o : Oper} (hi : ops[i]? = some o) : ∀ t ∈ o.looksAt ops.toArray, ∀ j, dstOf ops j = some t → j ∈ cls.getD i [] ∨ i ∈ cls.getD j [] := by
  have := okC_at h hi
  unfold okOneC at this
  simp only [Bool.and_eq_true] at this
  intro t ht j hj
  have h2 := List.all_eq_true.1 (List.all_eq_true.1 this.1.2 t ht) j (List.mem_range.2 (dst_lt hj))
  simpa [hj] using h2
theorem okC_cons (h : okRegC ops cls cons q size = true) {i : Nat} {o : Oper} (hi : ops[i]? = some o) : (cons.getD i []).Nodup ∧ ∀ j ∈ cons.getD i [], j < ops.length + q ∧ (ops.length ≤ j ∨ j ∈ cls.getD i []) ∧ ∀ k, k < ops.length → j ∈ cons.getD k [] → k = i := by
  have := okC_at h hi
  unfold okOneC at this
  simp only [Bool.and_eq_true, decide_eq_true_eq] at this
  obtain ⟨_, h1, h2⟩ := this
  refine ⟨h1, fun j hj => ?_⟩
  have h3 := List.all_eq_true.1 h2 j hj
  simp only [Bool.and_eq_true, Bool.or_eq_true, decide_eq_true_eq, List.contains_iff_mem] at h3
  refine ⟨h3.1.1, h3.1.2, fun k hk hm => ?_⟩
  have h4 := List.all_eq_true.1 h3.2 k (List.mem_range.2 hk)
  simp only [Bool.or_eq_true, beq_iff_eq, Bool.not_eq_true', List.contains_eq_mem, decide_eq_false_iff_not] at h4
  exact h4.resolve_right fun h5 => h5 hm
theorem clsC_lt (hok : okRegC ops cls cons q size = true) : ∀ (i : Nat), i < ops.length → ∀ j ∈ cls.getD i [], j < i := by
  intro i
  induction i using Nat.strongRecOn with
  | _ i ih =>
    intro hi j hj
    have hio : ops[i]? = some ops[i] := by simp [hi]
    obtain ⟨hlt, hcl⟩ := okC_direct hok hio
    rcases hcl j hj with h | ⟨k, hk, hjk⟩
    · exact hlt j h
    · have := hlt k hk
      have := ih k this (by omega) j hjk
      omega
theorem readyC_nil (hok : okRegC ops cls cons q size = true) {listed : Array Bool} (hs : listed.size = ops.length) (h : Region.ready .any ops.toArray listed = []) :
    ∀ i, i < ops.length → listed.getD i false = true := by
  intro i
  induction i using Nat.strongRecOn with
  | _ i ih =>
    intro hi
    cases hb : listed.getD i false with
    | true => rfl
    | false =>
      have hio : ops[i]? = some ops[i] := by simp [hi]
      have hlt := (okC_direct hok hio).1
      have : i ∈ Region.ready .any ops.toArray listed := mem_ready.2 ⟨by simp [hs, hi] at hb ⊢; exact hb, ops[i], by simp [hi], fun e he hbd => by
        have hm : e.on ∈ direct ops[i] := List.mem_map.2 ⟨e, List.mem_filter.2 ⟨by simpa using he, by simpa using hbd⟩, rfl⟩
        exact ih _ (hlt _ hm) (by have := hlt _ hm; omega)⟩
      rw [h] at this; cases this
end
def okRdF (ops : List Oper) (cls cons rd : List (List Nat)) (q : Nat) : Bool := (List.range ops.length).all fun i => (rd.getD i []).all fun j =>
  decide (j < q) && (!(cons.getD i []).contains (ops.length + j) && (List.range ops.length).all fun k => !(cons.getD k []).contains (ops.length + j) || (cls.getD k []).contains i)
theorem okRd_at {ops : List Oper} {cls cons rd : List (List Nat)} {q : Nat} (h : okRdF ops cls cons rd q = true) {i : Nat} (hi : i < ops.length) {j : Nat} (hj : j ∈ rd.getD i []) : j < q ∧ ops.length + j ∉ cons.getD i [] ∧ ∀ k, k < ops.length → ops.length + j ∈ cons.getD k [] → i ∈ cls.getD k [] := by
  have h1 := List.all_eq_true.1 (List.all_eq_true.1 h i (List.mem_range.2 hi)) j hj
  rw [Bool.and_eq_true, Bool.and_eq_true] at h1
  refine ⟨of_decide_eq_true h1.1, not_has.1 h1.2.1, fun k hk hm => ?_⟩
  have h2 := List.all_eq_true.1 h1.2.2 k (List.mem_range.2 hk)
  rw [Bool.or_eq_true] at h2
  rcases h2 with h2 | h2
  · exact absurd hm (not_has.1 h2)
  · exact List.contains_iff_mem.1 h2
section
variable {P : Program} {ro : Option Nat} {ops : List Oper} {cls cons : List (List Nat)} {a0 : Act} {Q : Exit → Act → World → Prop} {w0 w1 : World}
/-- the memory of operation j, or of what was there ahead -/
def oRes {τ : Type} (d0 : τ) (ops : List Oper) (cls : List (List Nat)) (Rs : List ((Nat → τ) → List Own)) (I0 : List (List Own)) (val : Nat → τ) (j : Nat) : List Own :=
  bif Nat.blt j ops.length then (Rs.getD j fun _ => []) (oMs d0 (j :: cls.getD j []) val) else I0.getD (j - ops.length) []
def oFct {τ : Type} (d0 : τ) (cls : List (List Nat)) (Fs : List ((Nat → τ) → Prop)) (val : Nat → τ) (j : Nat) : Prop := (Fs.getD j fun _ => True) (oMs d0 (j :: cls.getD j []) val)
/-- not used up yet -/
def liveC (ops : List Oper) (cons : List (List Nat)) (listed : Nat → Bool) (j : Nat) : Bool := (Nat.ble ops.length j || listed j) && (List.range ops.length).all fun i => !(listed i && (cons.getD i []).any (Nat.beq j))
theorem live_iff {listed : Nat → Bool} {j : Nat} : liveC ops cons listed j = true ↔ (ops.length ≤ j ∨ listed j = true) ∧ ∀ i, i < ops.length → listed i = true → j ∉ cons.getD i [] := by
  unfold liveC
  rw [Bool.and_eq_true, Bool.or_eq_true, Nat.ble_eq, List.all_eq_true]
  refine and_congr Iff.rfl ⟨fun h i hi hl hm => ?_, fun h i hi => ?_⟩
  · have := h i (List.mem_range.2 hi)
    rw [hl, List.any_eq_true.2 ⟨j, hm, by simp⟩] at this; cases this
  · cases hl : listed i with
    | false => rfl
    | true =>
      cases hb : (cons.getD i []).any (Nat.beq j) with
      | false => rfl
      | true =>
        obtain ⟨x, hx, he⟩ := List.any_eq_true.1 hb
        obtain rfl : j = x := by simpa using he
        exact absurd hx (h i (List.mem_range.1 hi) hl)
/-- what a slot holds -/
def oSlot {τ : Type} (π : τ → Value) (ops : List Oper) (cl : List Nat) (a0 a : Act) (val : Nat → τ) (t : Tmp) : Prop :=
  match writer ops cl t with
  | some j => a.tmps.getD t undef = π (val j)
  | none => a.tmps.getD t undef = a0.tmps.getD t undef
/-- one operation's duty; rd: what of what was there ahead it may look at; Sh: a piece that operations share whose order is not told -/
def oOb {τ : Type} (π : τ → Value) (d0 : τ) (P : Program) (ops : List Oper) (cls cons rd : List (List Nat)) (Rs : List ((Nat → τ) → List Own)) (I0 : List (List Own)) (Fs : List ((Nat → τ) → Prop)) (Sh : (Nat → Bool) → (Nat → τ) → List Own) (Bs : List Own) (w0 : World) (a0 : Act) (i : Nat) (o : Oper) : Prop :=
  ∀ (a : Act) (w : World) (val : Nat → τ) (E : List Own) (lst : Nat → Bool), lst i = false → (∀ j ∈ cls.getD i [], lst j = true) → (∀ k, lst k = true → ∀ j ∈ cls.getD k [], lst j = true) → a.tmps.size = a0.tmps.size → a.defers = a0.defers →
    (∀ t ∈ o.looksAt ops.toArray, oSlot π ops (cls.getD i []) a0 a val t) →
    (∀ j ∈ cls.getD i [], oFct d0 cls Fs val j) → (∀ j ∈ rd.getD i [], ∀ p ∈ I0.getD j [], p ∈ E) → St w0 ((cons.getD i []).flatMap (oRes d0 ops cls Rs I0 val) ++ (Sh lst val ++ (Bs ++ E))) w →
    Lst P ops.toArray (fun a' w' => ∃ v, (∀ d, o.dst = some d → a'.tmps.getD d undef = π v) ∧ oFct d0 cls Fs (oUp val i v) i ∧ St w0 (oRes d0 ops cls Rs I0 (oUp val i v) i ++ (Sh (setF lst i) (oUp val i v) ++ (Bs ++ E))) w') [o] a w
/-- the last operations come one behind the other -/
theorem wpAny_tailC {q m size : Nat} (hok : okRegC ops cls cons q size = true) (hT : ∀ i, m ≤ i → i < ops.length → ∀ j, j < i → j ∈ cls.getD i []) :
    ∀ (n i : Nat) (listed : Array Bool) (a : Act) (w : World), ops.length = i + n → m ≤ i → listed.size = ops.length → (∀ j, j < i → listed.getD j false = true) → (∀ j, i ≤ j → listed.getD j false = false) →
      wpOpsIn (FR ro) 0 P ops.toArray Q (List.range' i n) a w → wpAnyIn (FR ro) 0 P .any ops.toArray Q n listed a w := by
  intro n
  induction n with
  | zero =>
    intro i listed a w hn him hs h1 h2 h
    have hq : Q .normal a w := by simpa [wpOpsIn] using h
    refine ⟨?_, hq⟩
    cases hr : Region.ready .any ops.toArray listed with
    | nil => rfl
    | cons x xs =>
      have hx : x ∈ Region.ready .any ops.toArray listed := by rw [hr]; exact List.mem_cons_self
      obtain ⟨o, ho, hf, _⟩ := ready_direct hx
      have hlt := (List.getElem?_eq_some_iff.1 ho).1
      have := h1 x (by omega)
      rw [hf hs] at this; cases this
  | succ n ih =>
    intro i listed a w hn him hs h1 h2 h
    have hi : i < ops.length := by omega
    refine ⟨fun hr => ?_, fun k hk => ?_⟩
    · have := readyC_nil hok hs hr i hi
      rw [h2 i (Nat.le_refl _)] at this; cases this
    obtain ⟨o, ho, hf, hd⟩ := ready_direct hk
    have hkl := (List.getElem?_eq_some_iff.1 ho).1
    have hki : k = i := by
      rcases Nat.lt_trichotomy k i with h3 | h3 | h3
      · have := h1 k h3; rw [hf hs] at this; cases this
      · exact h3
      · rcases (okC_direct hok ho).2 i (hT k (by omega) hkl i h3) with h4 | ⟨p, hp, h4⟩
        · have := hd i h4; rw [h2 i (Nat.le_refl _)] at this; cases this
        · have hql := hd p hp
          have hqi : p < i := by
            rcases Nat.lt_or_ge p i with h5 | h5
            · exact h5
            · rw [h2 p h5] at hql; cases hql
          have := clsC_lt hok p (by omega) i h4
          omega
    subst hki
    rw [List.range'_succ, wpOpsIn_cons] at h
    refine wpOpIn_mono (fun a' w' h' => ih (k + 1) _ a' w' (by omega) (by omega) (by simp [hs]) (fun j hj => ?_) (fun j hj => ?_) h') h
    · by_cases e : k = j
      · subst e; have : k < listed.size := by rw [hs]; exact hi
        simp [this]
      · have := h1 j (by omega); simpa [Array.getElem?_setIfInBounds_ne e] using this
    · have e : k ≠ j := by omega
      have := h2 j (by omega); simpa [Array.getElem?_setIfInBounds_ne e] using this
structure oJt {τ : Type} (π : τ → Value) (d0 : τ) (ops : List Oper) (cls cons : List (List Nat)) (q : Nat) (Rs : List ((Nat → τ) → List Own)) (I0 : List (List Own)) (Fs : List ((Nat → τ) → Prop)) (Sh : (Nat → Bool) → (Nat → τ) → List Own) (Bs : List Own) (w0 : World) (a0 : Act) (m : Nat) (listed : Array Bool) (a : Act) (w : World) (val : Nat → τ) : Prop where
  size : a.tmps.size = a0.tmps.size
  defers : a.defers = a0.defers
  lsize : listed.size = ops.length
  tail : ∀ i, m ≤ i → listed.getD i false = false
  done : ∀ i d, dstOf ops i = some d → listed.getD i false = true → a.tmps.getD d undef = π (val i)
  rest : ∀ t, (∀ j, dstOf ops j = some t → listed.getD j false = false) → a.tmps.getD t undef = a0.tmps.getD t undef
  closed : ∀ i, listed.getD i false = true → ∀ j ∈ cls.getD i [], listed.getD j false = true
  facts : ∀ i, listed.getD i false = true → oFct d0 cls Fs val i
  st : St w0 (((List.range (ops.length + q)).filter (liveC ops cons fun j => listed.getD j false)).flatMap (oRes d0 ops cls Rs I0 val) ++ (Sh (fun j => listed.getD j false) val ++ Bs)) w
theorem wp_regionU {τ : Type} {π : τ → Value} {d0 : τ} {q rid m : Nat} {rd : List (List Nat)} (hrd : okRdF ops cls cons rd q = true) {Rs : List ((Nat → τ) → List Own)} {I0 : List (List Own)} {Fs : List ((Nat → τ) → Prop)} {Sh : (Nat → Bool) → (Nat → τ) → List Own} {Bs : List Own} (hm : P.follows .mixedOrders = true) (hok : okRegC ops cls cons q a0.tmps.size = true) (hsel : Region.noSelect ops.toArray = true)
    (hml : m ≤ ops.length) (hT : ∀ i, m ≤ i → i < ops.length → ∀ j, j < i → j ∈ cls.getD i [])
    (hob : ∀ i o, i < m → ops[i]? = some o → oOb π d0 P ops cls cons rd Rs I0 Fs Sh Bs w0 a0 i o)
    (s : St w0 (((List.range (ops.length + q)).filter (liveC ops cons fun _ => false)).flatMap (oRes d0 ops cls Rs I0 fun _ => d0) ++ (Sh (fun _ => false) (fun _ => d0) ++ Bs)) w1)
    (hfin : ∀ (b : Act) (w : World) (val : Nat → τ), b.tmps.size = a0.tmps.size → b.defers = a0.defers → (∀ i d, i < m → dstOf ops i = some d → b.tmps.getD d undef = π (val i)) → (∀ t, (∀ i, i < m → dstOf ops i ≠ some t) → b.tmps.getD t undef = a0.tmps.getD t undef) →
      (∀ i, i < m → oFct d0 cls Fs val i) → St w0 (((List.range (ops.length + q)).filter (liveC ops cons fun j => Nat.blt j m)).flatMap (oRes d0 ops cls Rs I0 val) ++ (Sh (fun j => Nat.blt j m) val ++ Bs)) w → Lst P ops.toArray (Q .normal) (ops.drop m) b w) :
    (Code.region rid ops.toArray true).wpIn (FR ro) 0 P Q a0 w1 := by
  refine wpIn_region_any hm ?_
  have hend : ∀ (listed : Array Bool) (a : Act) (w : World) (val : Nat → τ), oJt π d0 ops cls cons q Rs I0 Fs Sh Bs w0 a0 m listed a w val → (∀ i, i < m → listed.getD i false = true) → ∀ fuel, ops.length = m + fuel → wpAnyIn (FR ro) 0 P .any ops.toArray Q fuel listed a w := by
    intro listed a w val I hall fuel hfu
    refine wpAny_tailC hok hT fuel m listed a w hfu (Nat.le_refl _) I.lsize hall I.tail ?_
    have hfd : fuel = (ops.drop m).length := by rw [List.length_drop]; omega
    rw [hfd, wpOpsIn_eq_wpListIn (ops.drop m) m (fun j => by rw [List.getElem?_toArray, List.getElem?_drop])]
    refine Lst.wp ?_
    refine hfin a w val I.size I.defers (fun i d hi hd => I.done i d hd (hall i hi)) (fun t ht => I.rest t fun j hj => ?_) (fun i hi => I.facts i (hall i hi)) ?_
    · rcases Nat.lt_or_ge j m with h | h
      · exact absurd hj (ht j h)
      · exact I.tail j h
    have hfun : (fun j => listed.getD j false) = fun j => Nat.blt j m := by
      funext j
      rcases Nat.lt_or_ge j m with h | h
      · rw [hall j h]; exact (blt_t h).symm
      · rw [blt_f h]; exact I.tail j h
    have h9 := I.st
    rw [hfun] at h9
    exact h9
  have hcount : ∀ (fuel : Nat) (listed : Array Bool) (a : Act) (w : World) (val : Nat → τ), listed.toList.count false = fuel → oJt π d0 ops cls cons q Rs I0 Fs Sh Bs w0 a0 m listed a w val → wpAnyIn (FR ro) 0 P .any ops.toArray Q fuel listed a w := by
    intro fuel
    induction fuel with
    | zero =>
      intro listed a w val hc I
      have hall : ∀ i, i < ops.length → listed.getD i false = true := fun i hi => count_zero hc i (by rw [I.lsize]; exact hi)
      refine hend listed a w val I (fun i hi => hall i (by omega)) 0 ?_
      rcases Nat.lt_or_ge m ops.length with h | h
      · have := I.tail m (Nat.le_refl _)
        rw [hall m h] at this; cases this
      · omega
    | succ fuel ih =>
      intro listed a w val hc I
      by_cases hall : ∀ i, i < m → listed.getD i false = true
      · refine hend listed a w val I hall (fuel + 1) ?_
        have key : ∀ (b : List Bool) (m : Nat), m ≤ b.length → (∀ i, i < m → b[i]? = some true) → (∀ i, m ≤ i → i < b.length → b[i]? = some false) → b.count false = b.length - m := by
          intro b
          induction b with
          | nil => intro m _ _ _; simp
          | cons x b ihb =>
            intro m hm h1 h2
            cases m with
            | zero =>
              have hx : x = false := by simpa using h2 0 (Nat.le_refl _) (by simp)
              have := ihb 0 (Nat.zero_le _) (fun i hi => by omega) (fun i _ hi => by simpa using h2 (i + 1) (Nat.zero_le _) (by simp; omega))
              subst hx; simp [this]
            | succ m =>
              have hx : x = true := by simpa using h1 0 (by omega)
              have := ihb m (by simpa using hm) (fun i hi => by simpa using h1 (i + 1) (by omega)) (fun i hi hi2 => by simpa using h2 (i + 1) (by omega) (by simp; omega))
              subst hx; simp [this]
        have hk := key listed.toList m (by simp [I.lsize]; omega)
          (fun i hi => by have := hall i hi; have hil : i < listed.size := by rw [I.lsize]; omega
                          simp [hil] at this ⊢; exact this)
          (fun i hi hi2 => by have := I.tail i hi; have hil : i < listed.size := by simpa using hi2
                              simp [hil] at this ⊢; exact this)
        rw [hc] at hk
        simp [I.lsize] at hk
        omega
      refine ⟨fun hr => absurd (fun i hi => readyC_nil hok I.lsize hr i (by omega)) hall, fun k hk => ?_⟩
      obtain ⟨o, ho, hf, hdir⟩ := ready_direct hk
      have hkl := (List.getElem?_eq_some_iff.1 ho).1
      have hks : k < listed.size := by rw [I.lsize]; exact hkl
      have hkm : k < m := by
        rcases Nat.lt_or_ge k m with h3 | h3
        · exact h3
        · exfalso
          apply hall
          intro j hj
          rcases (okC_direct hok ho).2 j (hT k h3 hkl j (by omega)) with h4 | ⟨p, hp, h4⟩
          · exact hdir j h4
          · exact I.closed p (hdir p hp) j h4
      have hu := hf I.lsize
      have hcl : ∀ j ∈ cls.getD k [], listed.getD j false = true := fun j hj => by
        rcases (okC_direct hok ho).2 j hj with h1 | ⟨q, hq, h1⟩
        · exact hdir j h1
        · exact I.closed q (hdir q hq) j h1
      have hcnt : (listed.setIfInBounds k true).toList.count false = fuel := by have := count_set hks hu; omega
      have hnk : ∀ i, listed.getD i false = true → k ∉ cls.getD i [] := fun i hi hm => by have := I.closed i hi k hm; rw [hu] at this; cases this
      have hkk : k ∉ cls.getD k [] := fun hm => by have := clsC_lt hok k hkl k hm; omega
      obtain ⟨hcn, hcc⟩ := okC_cons hok ho
      -- what it uses up stands
      have hclive : ∀ j ∈ cons.getD k [], liveC ops cons (fun j => listed.getD j false) j = true := fun j hj => by
        obtain ⟨_, h2, h3⟩ := hcc j hj
        refine live_iff.2 ⟨h2.imp id (hcl j), fun i hi hl hm => ?_⟩
        rw [h3 i hi hm] at hl
        rw [hu] at hl; cases hl
      have hperm : ((List.range (ops.length + q)).filter (liveC ops cons fun j => listed.getD j false)).Perm (cons.getD k [] ++ (List.range (ops.length + q)).filter (fun j => liveC ops cons (fun j => listed.getD j false) j && !(cons.getD k []).contains j)) := by
        refine (List.perm_ext_iff_of_nodup (List.nodup_range.filter _) ?_).2 fun j => ?_
        · rw [List.nodup_append]
          refine ⟨hcn, List.nodup_range.filter _, fun x hx y hy e => ?_⟩
          subst e
          have := (Bool.and_eq_true _ _ ▸ (List.mem_filter.1 hy).2 : _ ∧ _).2
          exact not_has.1 this hx
        · rw [List.mem_append, List.mem_filter, List.mem_filter, List.mem_range, Bool.and_eq_true]
          constructor
          · rintro ⟨h1, h2⟩
            by_cases hj : j ∈ cons.getD k []
            · exact .inl hj
            · exact .inr ⟨h1, h2, not_has.2 hj⟩
          · rintro (h1 | ⟨h1, h2, _⟩)
            · exact ⟨(hcc j h1).1, hclive j h1⟩
            · exact ⟨h1, h2⟩
      obtain ⟨E, hE⟩ : ∃ E, E = ((List.range (ops.length + q)).filter (fun j => liveC ops cons (fun j => listed.getD j false) j && !(cons.getD k []).contains j)).flatMap (oRes d0 ops cls Rs I0 val) := ⟨_, rfl⟩
      have hst : St w0 ((cons.getD k []).flatMap (oRes d0 ops cls Rs I0 val) ++ (Sh (fun j => listed.getD j false) val ++ (Bs ++ E))) w := by
        refine I.st.perm ?_
        refine ((hperm.flatMap_right _).append_right (Sh (fun j => listed.getD j false) val ++ Bs)).trans ?_
        rw [List.flatMap_append, ← hE, List.append_assoc, ← List.append_assoc (Sh _ _)]
        exact (List.perm_append_comm).append_left _
      have hslots : ∀ t ∈ o.looksAt ops.toArray, oSlot π ops (cls.getD k []) a0 a val t := fun t ht => by
        unfold oSlot
        cases hw : writer ops (cls.getD k []) t with
        | some j =>
          obtain ⟨hmj, oj, hj, hdj⟩ := find_spec hw
          exact I.done j t (by rw [dst_of hj, hdj]) (hcl j hmj)
        | none =>
          refine I.rest t fun j hdj => ?_
          cases hb : listed.getD j false with
          | false => rfl
          | true =>
            rcases okC_look hok ho t ht j hdj with h | h
            · obtain ⟨oj, h1, h2⟩ := getD_lt hdj
              exact absurd h (find_none hw j oj h1 h2)
            · exact absurd h (hnk j hb)
      have hrdE : ∀ j ∈ rd.getD k [], ∀ p ∈ I0.getD j [], p ∈ E := fun j hj p hp => by
        obtain ⟨h1, h2, h3⟩ := okRd_at hrd hkl hj
        rw [hE]
        refine List.mem_flatMap.2 ⟨ops.length + j, List.mem_filter.2 ⟨List.mem_range.2 (by omega), ?_⟩, ?_⟩
        · rw [Bool.and_eq_true]
          refine ⟨live_iff.2 ⟨.inl (Nat.le_add_right _ _), fun i hi hl hm => hnk i hl (h3 i hi hm)⟩, not_has.2 h2⟩
        · unfold oRes
          rw [blt_f (Nat.le_add_right _ _), cond_false, Nat.add_sub_cancel_left]; exact hp
      have hO := hob k o hkm ho a w val E (fun j => listed.getD j false) hu hcl I.closed I.size I.defers hslots (fun j hj => I.facts j (hcl j hj)) hrdE hst
      have hset := set_iff hks
      have step : ∀ v v' w', (∀ d, o.dst = some d → v' = π v) → oFct d0 cls Fs (oUp val k v) k → St w0 (oRes d0 ops cls Rs I0 (oUp val k v) k ++ (Sh (setF (fun j => listed.getD j false) k) (oUp val k v) ++ (Bs ++ E))) w' → wpAnyIn (FR ro) 0 P .any ops.toArray Q fuel (listed.setIfInBounds k true) (a.put o.dst v') w' := fun v v' w' hv hF hS => by
        have hmk : ∀ i, listed.getD i false = true → oMs d0 (i :: cls.getD i []) (oUp val k v) = oMs d0 (i :: cls.getD i []) val := fun i hi => oMs_congr fun j hj => by
          refine oUp_other val v fun e => ?_
          subst e
          rcases List.mem_cons.1 hj with h | h
          · subst h; rw [hu] at hi; cases hi
          · exact hnk i hi h
        refine ih _ _ w' (oUp val k v) hcnt ⟨by rw [Act.tmps_put_size]; exact I.size, by cases o.dst <;> exact I.defers, by simp [I.lsize], fun i hi => (by have h8 := I.tail i hi; have h7 : k ≠ i := (by omega); simpa [Array.getElem?_setIfInBounds_ne h7] using h8), fun i d hd hl => ?_, fun t ht => ?_, fun i hi j hj => ?_, fun i hi => ?_, ?_⟩
        · obtain ⟨hds, huniq⟩ := okC_dst hok hd
          by_cases hik : i = k
          · subst hik
            have hdo : o.dst = some d := by rw [dst_of ho] at hd; exact hd
            rw [hdo, put_getD, if_pos ⟨rfl, by rw [I.size]; exact hds⟩, oUp_same]
            exact hv d hdo
          · have hne : o.dst ≠ some d := fun e => hik (huniq k (by rw [dst_of ho, e])).symm
            rw [oUp_other val v hik]
            have h9 := I.done i d hd (((hset i).1 hl).resolve_left hik)
            cases hdo : o.dst with
            | none => exact h9
            | some d2 => rw [put_getD, if_neg (fun h => hne (by rw [hdo, h.1]))]; exact h9
        · have h9 := I.rest t fun j hj => by
            have := ht j hj
            cases hb : listed.getD j false with
            | false => rfl
            | true => rw [(hset j).2 (.inr hb)] at this; cases this
          cases hdo : o.dst with
          | none => exact h9
          | some d2 =>
            rw [put_getD, if_neg]
            · exact h9
            · rintro ⟨e, _⟩
              subst e
              have := ht k (by rw [dst_of ho, hdo])
              rw [(hset k).2 (.inl rfl)] at this; cases this
        · rcases (hset i).1 hi with e | e
          · subst e; exact (hset j).2 (.inr (hcl j hj))
          · exact (hset j).2 (.inr (I.closed i e j hj))
        · rcases (hset i).1 hi with e | e
          · subst e; exact hF
          · unfold oFct
            rw [hmk i e]
            exact I.facts i e
        · -- what stands now
          have hlive : ∀ j, liveC ops cons (fun j => (listed.setIfInBounds k true).getD j false) j = true ↔ (j = k ∨ (liveC ops cons (fun j => listed.getD j false) j = true ∧ j ∉ cons.getD k [])) := fun j => by
            rw [live_iff, live_iff]
            constructor
            · rintro ⟨h1, h2⟩
              by_cases hjk : j = k
              · exact .inl hjk
              · refine .inr ⟨⟨h1.imp id fun h => ((hset j).1 h).resolve_left hjk, fun i hi hl => h2 i hi ((hset i).2 (.inr hl))⟩, h2 k hkl ((hset k).2 (.inl rfl))⟩
            · rintro (rfl | ⟨⟨h1, h2⟩, h3⟩)
              · refine ⟨.inr ((hset j).2 (.inl rfl)), fun i hi hl hm => ?_⟩
                have hio : ops[i]? = some ops[i] := by simp [hi]
                rcases ((okC_cons hok hio).2 j hm).2.1 with h | h
                · omega
                · rcases (hset i).1 hl with e | e
                  · subst e; exact hkk h
                  · exact hnk i e h
              · refine ⟨h1.imp id fun h => (hset j).2 (.inr h), fun i hi hl => ?_⟩
                rcases (hset i).1 hl with e | e
                · subst e; exact h3
                · exact h2 i hi e
          have hp2 : ((List.range (ops.length + q)).filter (liveC ops cons fun j => (listed.setIfInBounds k true).getD j false)).Perm (k :: (List.range (ops.length + q)).filter (fun j => liveC ops cons (fun j => listed.getD j false) j && !(cons.getD k []).contains j)) := by
            refine (List.perm_ext_iff_of_nodup (List.nodup_range.filter _) ?_).2 fun j => ?_
            · rw [List.nodup_cons]
              refine ⟨fun hm => ?_, List.nodup_range.filter _⟩
              have h1 := (List.mem_filter.1 hm).2
              rw [Bool.and_eq_true] at h1
              rcases (live_iff.1 h1.1).1 with h | h
              · omega
              · rw [hu] at h; cases h
            · rw [List.mem_filter, List.mem_cons, List.mem_filter, List.mem_range, Bool.and_eq_true, hlive]
              constructor
              · rintro ⟨h1, h2 | ⟨h2, h3⟩⟩
                · exact .inl h2
                · exact .inr ⟨h1, h2, not_has.2 h3⟩
              · rintro (h1 | ⟨h1, h2, h3⟩)
                · exact ⟨by omega, .inl h1⟩
                · exact ⟨h1, .inr ⟨h2, not_has.1 h3⟩⟩
          have hsf : (fun j => (listed.setIfInBounds k true).getD j false) = setF (fun j => listed.getD j false) k := by
            funext j
            unfold setF
            cases hb : Nat.beq j k with
            | true => exact (hset j).2 (.inl (by simpa using hb))
            | false =>
              show _ = listed.getD j false
              cases hl : listed.getD j false with
              | true => exact (hset j).2 (.inr hl)
              | false =>
                cases h9 : (listed.setIfInBounds k true).getD j false with
                | false => rfl
                | true =>
                  rcases (hset j).1 h9 with e | e
                  · subst e; simp at hb
                  · rw [hl] at e; cases e
          refine hS.perm ?_
          refine List.Perm.trans ?_ ((hp2.flatMap_right _).append_right (Sh (fun j => (listed.setIfInBounds k true).getD j false) (oUp val k v) ++ Bs)).symm
          rw [List.flatMap_cons, hsf]
          have hEq : ((List.range (ops.length + q)).filter (fun j => liveC ops cons (fun j => listed.getD j false) j && !(cons.getD k []).contains j)).flatMap (oRes d0 ops cls Rs I0 (oUp val k v)) = E := by
            rw [hE, List.flatMap_def, List.flatMap_def]
            congr 1
            refine List.map_congr_left fun j hj => ?_
            have h1 := (List.mem_filter.1 hj).2
            rw [Bool.and_eq_true] at h1
            unfold oRes
            rcases Nat.lt_or_ge j ops.length with h | h
            · have hl := (live_iff.1 h1.1).1.resolve_left (by omega)
              rw [hmk j hl]
            · rw [blt_f h]; rfl
          rw [hEq, List.append_assoc, ← List.append_assoc (Sh _ _)]
          exact (List.perm_append_comm).append_left _
      have ho' : ops.toArray[k]? = some o := by simpa using ho
      unfold wpOpIn
      simp only [ho']
      unfold Lst at hO
      split at hO
      · rename_i hw
        rw [if_pos hw]
        exact hO.wp fun v w' h9 => by
          unfold Lst at h9
          obtain ⟨u, h1, h2, h3⟩ := h9
          refine step u v w' (fun d hd => ?_) h2 h3
          have := h1 d hd
          rwa [hd, put_getD, if_pos ⟨rfl, by rw [I.size]; exact (okC_dst hok (by rw [dst_of ho, hd])).1⟩] at this
      · rename_i hw
        rw [if_neg hw]
        unfold Lst at hO
        obtain ⟨u, h1, h2, h3⟩ := hO
        refine ⟨fun _ _ => trivial, step u undef w (fun d hd => ?_) h2 h3⟩
        have := h1 d hd
        rwa [hd, put_getD, if_pos ⟨rfl, by rw [I.size]; exact (okC_dst hok (by rw [dst_of ho, hd])).1⟩] at this
  have hz : ∀ i, (Array.replicate ops.toArray.size false).getD i false = false := fun i => by simp [Array.getElem?_replicate]; split <;> rfl
  have hfz : (fun j => (Array.replicate ops.toArray.size false).getD j false) = fun _ => false := funext hz
  refine hcount _ _ _ _ (fun _ => d0) (by simp) ⟨rfl, rfl, by simp, fun i _ => hz i, fun i d _ h => ?_, fun _ _ => rfl, fun i h => ?_, fun i h => ?_, ?_⟩
  · rw [hz] at h; cases h
  · rw [hz] at h; cases h
  · rw [hz] at h; cases h
  · rw [hfz]; exact s.drew
end
section
variable {P : Program} {ro : Option Nat} {ops : List Oper} {cls cons : List (List Nat)} {a0 : Act} {Q : Exit → Act → World → Prop} {w0 w1 : World}
def AllB (F : Nat → Oper → Prop) : List Oper → Nat → Prop
  | [], _ => True
  | o :: r, i => F i o ∧ AllB F r (i + 1)
theorem allB_get {F : Nat → Oper → Prop} : ∀ {l : List Oper} {k : Nat}, AllB F l k → ∀ i o, l[i]? = some o → F (k + i) o
  | [], _, _, i, o, h => by simp at h
  | x :: r, k, H, 0, o, h => by simp at h; subst h; exact H.1
  | x :: r, k, H, i + 1, o, h => by
    have := allB_get H.2 i o (by simpa using h)
    rwa [show k + (i + 1) = k + 1 + i by omega]
/-- the last operations come behind all others -/
def okTl (m : Nat) (cls : List (List Nat)) (n : Nat) : Bool := Nat.ble m n && (List.range n).all fun i => Nat.blt i m || (List.range i).all fun j => (cls.getD i []).contains j
theorem okTl_spec {m n : Nat} {cls : List (List Nat)} (h : okTl m cls n = true) : m ≤ n ∧ ∀ i, m ≤ i → i < n → ∀ j, j < i → j ∈ cls.getD i [] := by
  unfold okTl at h
  rw [Bool.and_eq_true] at h
  refine ⟨Nat.le_of_ble_eq_true h.1, fun i h1 h2 j hj => ?_⟩
  have h3 := List.all_eq_true.1 h.2 i (List.mem_range.2 h2)
  rw [blt_f h1, Bool.false_or] at h3
  have h4 := List.all_eq_true.1 h3 j (List.mem_range.2 hj)
  exact List.contains_iff_mem.1 h4
theorem c_regU {τ : Type} {π : τ → Value} {d0 : τ} {rid N : Nat} {L : List (Nat × Value)} {Df : List Deferred} {B : List Own} (q m : Nat) (cls cons rd : List (List Nat)) (Rs : List ((Nat → τ) → List Own)) (I0 : List (List Own)) (Fs : List ((Nat → τ) → Prop)) (Sh : (Nat → Bool) → (Nat → τ) → List Own) (Bs : List Own)
    (h : Sl N a0 L Df) (s : St w0 B w1) (hB : ((List.range (ops.length + q)).filter (liveC ops cons fun _ => false)).flatMap (oRes d0 ops cls Rs I0 fun _ => d0) ++ (Sh (fun _ => false) (fun _ => d0) ++ Bs) = B) (hm : P.follows .mixedOrders = true) (hok : (okRegC ops cls cons q N && okTl m cls ops.length) = true) (hrd : okRdF ops cls cons rd q = true) (hsel : Region.noSelect ops.toArray = true)
    (hob : AllB (oOb π d0 P ops cls cons rd Rs I0 Fs Sh Bs w0 a0) (ops.take m) 0) (lv : List Nat) (hlv : (List.range (ops.length + q)).filter (liveC ops cons fun j => Nat.blt j m) = lv)
    (hfin : ∀ (b : Act) (w : World) (val : Nat → τ), b.tmps.size = N → b.defers = Df → (∀ i d, Nat.blt i m = true → dstOf ops i = some d → b.tmps.getD d undef = π (val i)) → (∀ t, (∀ i, Nat.blt i m = true → dstOf ops i ≠ some t) → b.tmps.getD t undef = a0.tmps.getD t undef) →
      (∀ i, Nat.blt i m = true → oFct d0 cls Fs val i) → St w0 (lv.flatMap (oRes d0 ops cls Rs I0 val) ++ (Sh (fun j => Nat.blt j m) val ++ Bs)) w → Lst P ops.toArray (Q .normal) (ops.drop m) b w) :
    (Code.region rid ops.toArray true).wpIn (FR ro) 0 P Q a0 w1 := by
  subst hB
  obtain ⟨hok, htl⟩ := (Bool.and_eq_true _ _ ▸ hok : _ ∧ _)
  obtain ⟨hml, hT⟩ := okTl_spec htl
  refine wp_regionU hrd hm (by rw [h.size]; exact hok) hsel hml hT (fun i o him hi => ?_) s fun b w val h1 h2 h3 h4 h5 h6 => hfin b w val (h1.trans h.size) (h2.trans h.defers) (fun i d hi => h3 i d (Nat.le_of_ble_eq_true hi)) (fun t ht => h4 t fun i hi => ht i (blt_t hi)) (fun i hi => h5 i (Nat.le_of_ble_eq_true hi)) (by rw [hlv] at h6; exact h6)
  have := allB_get hob i o (by rw [List.getElem?_take, if_pos him]; exact hi)
  rwa [Nat.zero_add] at this
end
/-! words for what is said of operations: nothing; a value; something of all values; memory that it hands out, and something of all values -/
abbrev oVV : Value → Value := fun v => v
inductive FcE (τ : Type) where
  | n
  | v (X : Value)
  | p
  | f (F : (Nat → τ) → Prop)
  | r (R : (Nat → τ) → List Own) (F : (Nat → τ) → Prop)
  | m (R : (Nat → τ) → List Own)
  | w (R : (Nat → τ) → List Own) (X : Value)
  | q (R : (Nat → τ) → List Own)
def FcE.fct {τ : Type} (π : τ → Value) (i : Nat) : FcE τ → (Nat → τ) → Prop
  | .v X => fun v => π (v i) = X
  | .w _ X => fun v => π (v i) = X
  | .p => fun v => ∃ b, π (v i) = .pointer (some ⟨b, 0, none⟩)
  | .q _ => fun v => ∃ b, π (v i) = .pointer (some ⟨b, 0, none⟩)
  | .f F => F
  | .r _ F => F
  | _ => fun _ => True
def FcE.res {τ : Type} : FcE τ → (Nat → τ) → List Own
  | .r R _ => R
  | .m R => R
  | .w R _ => R
  | .q R => R
  | _ => fun _ => []
def fsE {τ : Type} (π : τ → Value) : List (FcE τ) → Nat → List ((Nat → τ) → Prop)
  | [], _ => []
  | e :: r, i => e.fct π i :: fsE π r (i + 1)
def rsE {τ : Type} : List (FcE τ) → List ((Nat → τ) → List Own)
  | [] => []
  | e :: r => e.res :: rsE r
theorem fsE_get {τ : Type} {π : τ → Value} : ∀ {E : List (FcE τ)} {k j : Nat} {X : Value}, E.getD j .n = .v X → (fsE π E k).getD j (fun _ => True) = fun v => π (v (k + j)) = X
  | [], k, j, X, h => by cases j <;> cases h
  | e :: r, k, 0, X, h => by
    have h : e = .v X := h
    subst h; rfl
  | e :: r, k, j + 1, X, h => by
    have := fsE_get (π := π) (E := r) (k := k + 1) (j := j) (X := X) h
    rw [show k + (j + 1) = k + 1 + j by omega]; exact this
theorem fsE_w {τ : Type} {π : τ → Value} : ∀ {E : List (FcE τ)} {k j : Nat} {R : (Nat → τ) → List Own} {X : Value}, E.getD j .n = .w R X → (fsE π E k).getD j (fun _ => True) = fun v => π (v (k + j)) = X
  | [], k, j, R, X, h => by cases j <;> cases h
  | e :: r, k, 0, R, X, h => by
    have h : e = .w R X := h
    subst h; rfl
  | e :: r, k, j + 1, R, X, h => by
    have := fsE_w (π := π) (E := r) (k := k + 1) (j := j) (R := R) (X := X) h
    rw [show k + (j + 1) = k + 1 + j by omega]; exact this
theorem rsE_get {τ : Type} : ∀ {E : List (FcE τ)} {j : Nat} {X : Value}, E.getD j .n = .v X → (rsE E).getD j (fun _ => []) = fun _ => []
  | [], j, X, h => by cases j <;> cases h
  | e :: r, 0, X, h => by
    have h : e = .v X := h
    subst h; rfl
  | e :: r, j + 1, X, h => rsE_get (E := r) (j := j) (X := X) h
/-- the value that is known -/
def xE {τ : Type} (E : List (FcE τ)) (j : Nat) : Option Value := match E.getD j .n with
  | .v X => some X
  | .w _ X => some X
  | _ => none
theorem xE_fct {τ : Type} {π : τ → Value} {d0 : τ} {cls : List (List Nat)} {E : List (FcE τ)} {val : Nat → τ} {j : Nat} {X : Value} (h : xE E j = some X) (hF : oFct d0 cls (fsE π E 0) val j) : π (val j) = X := by
  unfold xE at h
  have key : (fsE π E 0).getD j (fun _ => True) = (fun v => π (v (0 + j)) = X) → π (val j) = X := fun hg => by
    unfold oFct at hF
    rw [hg, Nat.zero_add] at hF
    have h9 : π (oMs d0 (j :: cls.getD j []) val j) = X := hF
    unfold oMs at h9
    rw [List.any_eq_true.2 ⟨j, List.mem_cons_self, by simp⟩] at h9
    exact h9
  split at h
  · next Y hY => cases h; exact key (fsE_get hY)
  · next Y hY => cases h; exact key (fsE_w hY)
  · cases h
theorem oFx {τ : Type} {π : τ → Value} {d0 : τ} {cls : List (List Nat)} {E : List (FcE τ)} {val : Nat → τ} {i : Nat} {u : τ} {Y : Value} (hE : E.getD i .n = .v Y) (hX : π u = Y) : oFct d0 cls (fsE π E 0) (oUp val i u) i := by
  unfold oFct
  rw [fsE_get hE]
  show π (oMs d0 (i :: cls.getD i []) (oUp val i u) (0 + i)) = Y
  rw [Nat.zero_add]
  unfold oMs
  rw [List.any_eq_true.2 ⟨i, List.mem_cons_self, by simp⟩, ← hX]
  exact congrArg π (oUp_same val i u)
theorem oAI {F : Nat → Oper → Prop} {o : Oper} {r : List Oper} {i : Nat} (h : F i o) (t : AllB F r (i + 1)) : AllB F (o :: r) i := ⟨h, t⟩
/-- without what may be looked at, and without what is shared -/
def ObS {τ : Type} (π : τ → Value) (d0 : τ) (P : Program) (ops : List Oper) (cls cons : List (List Nat)) (Rs : List ((Nat → τ) → List Own)) (I0 : List (List Own)) (Fs : List ((Nat → τ) → Prop)) (Bs : List Own) (w0 : World) (a0 : Act) (i : Nat) (o : Oper) : Prop :=
  ∀ (a : Act) (w : World) (val : Nat → τ) (E : List Own), a.tmps.size = a0.tmps.size → a.defers = a0.defers →
    (∀ t ∈ o.looksAt ops.toArray, oSlot π ops (cls.getD i []) a0 a val t) → (∀ j ∈ cls.getD i [], oFct d0 cls Fs val j) → St w0 ((cons.getD i []).flatMap (oRes d0 ops cls Rs I0 val) ++ (Bs ++ E)) w →
    Lst P ops.toArray (fun a' w' => ∃ v, (∀ d, o.dst = some d → a'.tmps.getD d undef = π v) ∧ oFct d0 cls Fs (oUp val i v) i ∧ St w0 (oRes d0 ops cls Rs I0 (oUp val i v) i ++ (Bs ++ E)) w') [o] a w
theorem allB_mono {F G : Nat → Oper → Prop} (h : ∀ i o, F i o → G i o) : ∀ {l : List Oper} {k : Nat}, AllB F l k → AllB G l k
  | [], _, _ => trivial
  | _ :: _, _, H => ⟨h _ _ H.1, allB_mono h H.2⟩
theorem okRd_nil (ops : List Oper) (cls cons : List (List Nat)) (q : Nat) : okRdF ops cls cons [] q = true := by
  unfold okRdF
  exact List.all_eq_true.2 fun i _ => rfl
theorem okTl_all (cls : List (List Nat)) (n : Nat) : okTl n cls n = true := by
  unfold okTl
  rw [Bool.and_eq_true]
  exact ⟨Nat.ble_eq_true_of_le (Nat.le_refl n), List.all_eq_true.2 fun i hi => by rw [blt_t (List.mem_range.1 hi)]; rfl⟩
section
variable {P : Program} {ro : Option Nat} {ops : List Oper} {a0 : Act} {Q : Exit → Act → World → Prop} {w0 w1 : World} {τ : Type} {π : τ → Value} {d0 : τ} {rid N : Nat} {L : List (Nat × Value)} {Df : List Deferred} {B : List Own}
theorem c_regU0 (q : Nat) (cls cons rd : List (List Nat)) (Rs : List ((Nat → τ) → List Own)) (I0 : List (List Own)) (Fs : List ((Nat → τ) → Prop)) (Sh : (Nat → Bool) → (Nat → τ) → List Own) (Bs : List Own)
    (h : Sl N a0 L Df) (s : St w0 B w1) (hB : ((List.range (ops.length + q)).filter (liveC ops cons fun _ => false)).flatMap (oRes d0 ops cls Rs I0 fun _ => d0) ++ (Sh (fun _ => false) (fun _ => d0) ++ Bs) = B) (hm : P.follows .mixedOrders = true) (hok : okRegC ops cls cons q N = true) (hrd : okRdF ops cls cons rd q = true) (hsel : Region.noSelect ops.toArray = true)
    (hob : AllB (oOb π d0 P ops cls cons rd Rs I0 Fs Sh Bs w0 a0) ops 0) (lv : List Nat) (hlv : (List.range (ops.length + q)).filter (liveC ops cons fun j => Nat.blt j ops.length) = lv)
    (hfin : ∀ (b : Act) (w : World) (val : Nat → τ), b.tmps.size = N → b.defers = Df → (∀ i d, dstOf ops i = some d → b.tmps.getD d undef = π (val i)) → (∀ t, (∀ i, dstOf ops i ≠ some t) → b.tmps.getD t undef = a0.tmps.getD t undef) →
      (∀ i, Nat.blt i ops.length = true → oFct d0 cls Fs val i) → St w0 (lv.flatMap (oRes d0 ops cls Rs I0 val) ++ (Sh (fun j => Nat.blt j ops.length) val ++ Bs)) w → Q .normal b w) :
    (Code.region rid ops.toArray true).wpIn (FR ro) 0 P Q a0 w1 := by
  refine c_regU q ops.length cls cons rd Rs I0 Fs Sh Bs h s hB hm (by rw [hok, okTl_all]; rfl) hrd hsel (by rw [List.take_length]; exact hob) lv hlv fun b w val h1 h2 h3 h4 h5 h6 => ?_
  rw [List.drop_length]
  exact Lst.nil.2 (hfin b w val h1 h2 (fun i d hd => h3 i d (blt_t (dst_lt hd)) hd) (fun t ht => h4 t fun i _ => ht i) h5 h6)
theorem c_regS0 (q : Nat) (cls cons : List (List Nat)) (Rs : List ((Nat → τ) → List Own)) (I0 : List (List Own)) (Fs : List ((Nat → τ) → Prop)) (Bs : List Own)
    (h : Sl N a0 L Df) (s : St w0 B w1) (hB : ((List.range (ops.length + q)).filter (liveC ops cons fun _ => false)).flatMap (oRes d0 ops cls Rs I0 fun _ => d0) ++ Bs = B) (hm : P.follows .mixedOrders = true) (hok : okRegC ops cls cons q N = true) (hsel : Region.noSelect ops.toArray = true)
    (hob : AllB (ObS π d0 P ops cls cons Rs I0 Fs Bs w0 a0) ops 0) (lv : List Nat) (hlv : (List.range (ops.length + q)).filter (liveC ops cons fun j => Nat.blt j ops.length) = lv)
    (hfin : ∀ (b : Act) (w : World) (val : Nat → τ), b.tmps.size = N → b.defers = Df → (∀ i d, dstOf ops i = some d → b.tmps.getD d undef = π (val i)) → (∀ t, (∀ i, dstOf ops i ≠ some t) → b.tmps.getD t undef = a0.tmps.getD t undef) →
      (∀ i, Nat.blt i ops.length = true → oFct d0 cls Fs val i) → St w0 (lv.flatMap (oRes d0 ops cls Rs I0 val) ++ Bs) w → Q .normal b w) :
    (Code.region rid ops.toArray true).wpIn (FR ro) 0 P Q a0 w1 :=
  c_regU0 q cls cons [] Rs I0 Fs (fun _ _ => []) Bs h s hB hm hok (okRd_nil ops cls cons q) hsel (allB_mono (fun i o H a w val E _ _ _ _ h1 h2 h3 h4 _ s => H a w val E h1 h2 h3 h4 s) hob) lv hlv hfin
theorem c_regS (q m : Nat) (cls cons : List (List Nat)) (Rs : List ((Nat → τ) → List Own)) (I0 : List (List Own)) (Fs : List ((Nat → τ) → Prop)) (Bs : List Own)
    (h : Sl N a0 L Df) (s : St w0 B w1) (hB : ((List.range (ops.length + q)).filter (liveC ops cons fun _ => false)).flatMap (oRes d0 ops cls Rs I0 fun _ => d0) ++ Bs = B) (hm : P.follows .mixedOrders = true) (hok : (okRegC ops cls cons q N && okTl m cls ops.length) = true) (hsel : Region.noSelect ops.toArray = true)
    (hob : AllB (ObS π d0 P ops cls cons Rs I0 Fs Bs w0 a0) (ops.take m) 0) (lv : List Nat) (hlv : (List.range (ops.length + q)).filter (liveC ops cons fun j => Nat.blt j m) = lv)
    (hfin : ∀ (b : Act) (w : World) (val : Nat → τ), b.tmps.size = N → b.defers = Df → (∀ i d, Nat.blt i m = true → dstOf ops i = some d → b.tmps.getD d undef = π (val i)) → (∀ t, (∀ i, Nat.blt i m = true → dstOf ops i ≠ some t) → b.tmps.getD t undef = a0.tmps.getD t undef) →
      (∀ i, Nat.blt i m = true → oFct d0 cls Fs val i) → St w0 (lv.flatMap (oRes d0 ops cls Rs I0 val) ++ Bs) w → Lst P ops.toArray (Q .normal) (ops.drop m) b w) :
    (Code.region rid ops.toArray true).wpIn (FR ro) 0 P Q a0 w1 :=
  c_regU q m cls cons [] Rs I0 Fs (fun _ _ => []) Bs h s hB hm hok (okRd_nil ops cls cons q) hsel (allB_mono (fun i o H a w val E _ _ _ _ h1 h2 h3 h4 _ s => H a w val E h1 h2 h3 h4 s) hob) lv hlv hfin
abbrev c_regC := fun (q : Nat) (cls cons : List (List Nat)) (I0 : List (List Own)) (E : List (FcE Value)) => @c_regS0 P ro ops a0 Q w0 w1 Value oVV undef rid N L Df B q cls cons (rsE E) I0 (fsE oVV E 0)
abbrev c_regT := fun (q m : Nat) (cls cons : List (List Nat)) (I0 : List (List Own)) (E : List (FcE Value)) => @c_regS P ro ops a0 Q w0 w1 Value oVV undef rid N L Df B q m cls cons (rsE E) I0 (fsE oVV E 0)
theorem oc_get {cl : List Nat} {a : Act} {val : Nat → τ} {lk9 : List Tmp} (hl : ∀ t ∈ lk9, oSlot π ops cl a0 a val t) (t j : Nat) (hm : lk9.contains t = true) (hw : writer ops cl t = some j) : a.tmps.getD t undef = π (val j) := by
  have := hl t (List.contains_iff_mem.1 hm)
  unfold oSlot at this
  rw [hw] at this
  exact this
theorem oc_old {cl : List Nat} {a : Act} {val : Nat → τ} {lk9 : List Tmp} (hl : ∀ t ∈ lk9, oSlot π ops cl a0 a val t) (t : Nat) (hm : lk9.contains t = true) (hw : writer ops cl t = none) {v : Value} (hv : a0.tmps.getD t undef = v) : a.tmps.getD t undef = v := by
  have := hl t (List.contains_iff_mem.1 hm)
  unfold oSlot at this
  rw [hw] at this
  exact this.trans hv
end
section
variable {ops : List Oper} {a0 : Act}
theorem oc_out {o : Oper} {a : Act} {v : Value} (D : Tmp) (hd : o.dst = some D) (h : a.tmps.getD D undef = v) : ∀ d, o.dst = some d → a.tmps.getD d undef = v := fun d hd' => by
  rw [hd] at hd'; cases hd'; exact h
theorem oc_none {o : Oper} {a : Act} {v : Value} (hd : o.dst = none) : ∀ d, o.dst = some d → a.tmps.getD d undef = v := fun d hd' => by
  rw [hd] at hd'; cases hd'
theorem oc_sl {N : Nat} {L : List (Nat × Value)} {Df : List Deferred} {b : Act} (news : List (Nat × Value)) (h : Sl N a0 L Df) (hs : b.tmps.size = N) (hd : b.defers = Df)
    (hr : ∀ t, (∀ i, dstOf ops i ≠ some t) → b.tmps.getD t undef = a0.tmps.getD t undef) (hn : Holds b news)
    (hc : ((List.range ops.length).all fun i => match dstOf ops i with | some t => news.any (fun p => Nat.beq p.1 t) | none => true) = true) : Sl N b (news ++ L) Df := by
  refine sl_new (ops := ops) (mH := fun _ => true) news h hs hd (fun t ht => hr t fun i hi => ?_) hn ?_
  · have := List.all_eq_true.1 ht i (List.mem_range.2 (dst_lt hi))
    rw [hi] at this
    simp at this
  · refine List.all_eq_true.2 fun i hi => ?_
    have := List.all_eq_true.1 hc i hi
    cases hdi : dstOf ops i with
    | none => rfl
    | some t => rw [hdi] at this; exact this
theorem oc_slT {N : Nat} {L : List (Nat × Value)} {Df : List Deferred} {b : Act} (m : Nat) (news : List (Nat × Value)) (h : Sl N a0 L Df) (hs : b.tmps.size = N) (hd : b.defers = Df)
    (hr : ∀ t, (∀ i, Nat.blt i m = true → dstOf ops i ≠ some t) → b.tmps.getD t undef = a0.tmps.getD t undef) (hn : Holds b news)
    (hc : ((List.range m).all fun i => match dstOf ops i with | some t => news.any (fun p => Nat.beq p.1 t) | none => true) = true) : Sl N b (news ++ L) Df := by
  refine sl_new (ops := ops) (mH := fun i => Nat.blt i m) news h hs hd (fun t ht => hr t fun i hi hdi => ?_) hn ?_
  · have := List.all_eq_true.1 ht i (List.mem_range.2 (dst_lt hdi))
    simp only [hdi, hi] at this
    simp at this
  · refine List.all_eq_true.2 fun i hi => ?_
    cases hb : Nat.blt i m with
    | false => rfl
    | true =>
      have := List.all_eq_true.1 hc i (List.mem_range.2 (Nat.le_of_ble_eq_true hb))
      cases hdi : dstOf ops i with
      | none => rfl
      | some t => rw [hdi] at this; exact this
end
end Go.Proofs.Ythjkhnhiciamaaa

namespace Go.Proofs.Ythjkhnhiciamaaa
open Go.RowKit
/-! ### obligations of a drawn region, said shorter -/
theorem f9h {a b : Act} {N : Nat} {M : List (Nat × Value)} {Df : List Deferred} (L : List (Nat × Value)) (h : Sl N a M Df) (hs : b.tmps.size = a.tmps.size) (hd : b.defers = a.defers) (H : Holds b L) : Sl N b L Df := fin_slot L (hs.trans h.size) (hd.trans h.defers) (holds_lk H)
section
variable {ops : List Oper} {a0 a : Act} {cl : List Nat} {τ : Type} {π : τ → Value} {val : Nat → τ} {lk9 : List Tmp} {v : Value}
theorem oc_g (hl : ∀ t ∈ lk9, oSlot π ops cl a0 a val t) (t j : Nat) (hw : (lk9.contains t && (writer ops cl t == some j)) = true) (e : π (val j) = v) : a.tmps.getD t undef = v := by
  obtain ⟨h1, h2⟩ := (Bool.and_eq_true _ _).mp hw
  exact (oc_get hl t j h1 (eq_of_beq h2)).trans e
theorem oc_o (hl : ∀ t ∈ lk9, oSlot π ops cl a0 a val t) (t : Nat) (hw : (lk9.contains t && (writer ops cl t == none)) = true) (hv : a0.tmps.getD t undef = v) : a.tmps.getD t undef = v := by
  obtain ⟨h1, h2⟩ := (Bool.and_eq_true _ _).mp hw
  exact oc_old hl t h1 (eq_of_beq h2) hv
end
theorem oc_u {o : Oper} {a : Act} {v : Value} {N : Nat} {L : List (Nat × Value)} {Df : List Deferred} (D : Tmp) (h : Sl N a L Df) (hv : lk L D = some v) (hd : o.dst = some D) : ∀ d, o.dst = some d → a.tmps.getD d undef = v := oc_out D hd (h.holds D _ hv)
/-! an operation that looks at slots alone, whose value follows from what is known of them -/
def dst9 (ops : List Oper) (j t : Nat) : Bool := match ops[j]? with
  | some ⟨some d, _, _, _, _, _⟩ => Nat.beq d t
  | _ => false
def wr9 (ops : List Oper) (t : Nat) : List Nat → Option Nat
  | [] => none
  | j :: r => bif dst9 ops j t then some j else wr9 ops t r
theorem dst9_iff (ops : List Oper) (j t : Nat) : dst9 ops j t = decide ((ops[j]?).bind (·.dst) = some t) := by
  unfold dst9
  split
  · next d _ _ _ _ _ h =>
    rw [h]
    show Nat.beq d t = decide (some d = some t)
    cases hb : Nat.beq d t with
    | true => rw [Nat.eq_of_beq_eq_true hb]; simp
    | false =>
      have : d ≠ t := fun e => by subst e; simp at hb
      simp [this]
  · next h =>
    cases ho : ops[j]? with
    | none => simp
    | some o =>
      obtain ⟨d, a, b, c, e, f⟩ := o
      cases d with
      | none => simp
      | some d => exact absurd ho (h d a b c e f)
theorem wr9_eq (ops : List Oper) (t : Nat) : ∀ cl : List Nat, wr9 ops t cl = writer ops cl t
  | [] => rfl
  | j :: r => by
    unfold wr9 writer
    rw [List.find?_cons, dst9_iff, wr9_eq ops t r]
    cases decide ((ops[j]?).bind (·.dst) = some t) <;> rfl
def src9 {τ : Type} (ops : List Oper) (cl : List Nat) (L : List (Nat × Value)) (E : List (FcE τ)) (t : Nat) : Option Value := match wr9 ops t cl with
  | some j => xE E j
  | none => lk L t
def mOf {τ : Type} (ops : List Oper) (cl : List Nat) (L : List (Nat × Value)) (E : List (FcE τ)) (op : Op) : List (Nat × Value) :=
  op.operands.toList.filterMap fun x => match x with
    | .tmp t => (src9 ops cl L E t).map fun v => (t, v)
    | _ => none
section
variable {P : Program} {ops : List Oper} {cls cons : List (List Nat)} {I0 : List (List Own)} {Bs : List Own} {w0 : World} {a0 : Act} {τ : Type} {π : τ → Value} {d0 : τ} {E : List (FcE τ)} {T : List (Nat × Nat × Nat)} {N : Nat} {L : List (Nat × Value)} {Df : List Deferred}
theorem oPu0 (mk : Value → τ) (hmk : ∀ X, π (mk X) = X) (hT : FT P T) (h : Sl N a0 L Df) {X : Value} {d : Tmp} {op : Op} {ty : TypeId} {pos : String} {af : Array Edge} {l : List Oper} {i : Nat}
    (hev : evR T (mOf ops (cls.getD i []) L E op) op = some X) (hX : E.getD i .n = .v X) (hok : (Nat.blt d N && (Nat.blt i ops.length && (cons.getD i []).isEmpty)) = true)
    (k : AllB (ObS π d0 P ops cls cons (rsE E) I0 (fsE π E 0) Bs w0 a0) l (i + 1)) : AllB (ObS π d0 P ops cls cons (rsE E) I0 (fsE π E 0) Bs w0 a0) (⟨some d, op, ty, pos, af, none⟩ :: l) i := by
  refine ⟨fun a w val E9 hs hd hl hF s => ?_, k⟩
  rw [Bool.and_eq_true, Bool.and_eq_true] at hok
  obtain ⟨hdl, hil, hce⟩ := hok
  rw [List.isEmpty_iff] at hce
  have hM : ∀ t v, lk (mOf ops (cls.getD i []) L E op) t = some v → a.tmps.getD t undef = v := fun t v hm => by
    obtain ⟨x, hx, hxm⟩ := List.mem_filterMap.1 (lk_mem hm)
    cases x with
    | tmp u =>
      cases hsr : src9 ops (cls.getD i []) L E u with
      | none =>
        have hxm : (src9 ops (cls.getD i []) L E u).map (fun v => (u, v)) = some (t, v) := hxm
        rw [hsr] at hxm; cases hxm
      | some y =>
        have hxm : (src9 ops (cls.getD i []) L E u).map (fun v => (u, v)) = some (t, v) := hxm
        simp only [hsr, Option.map_some, Option.some.injEq, Prod.mk.injEq] at hxm
        obtain ⟨rfl, rfl⟩ := hxm
        have hlook : u ∈ (Oper.looksAt ops.toArray ⟨some d, op, ty, pos, af, none⟩) := List.mem_append_left _ (List.mem_filterMap.2 ⟨.tmp u, hx, rfl⟩)
        have h9 := hl u hlook
        unfold oSlot at h9
        unfold src9 at hsr
        rw [wr9_eq] at hsr
        cases hw : writer ops (cls.getD i []) u with
        | some j =>
          rw [hw] at h9 hsr
          exact h9.trans (xE_fct hsr (hF j (find_spec hw).1))
        | none =>
          rw [hw] at h9 hsr
          exact h9.trans (h.holds u y hsr)
    | _ => simp at hxm
  have hS : Sl N a (mOf ops (cls.getD i []) L E op) Df := ⟨hs.trans h.size, hd.trans h.defers, hM⟩
  refine s_pure hS (evR_runs hT hS hev) hdl fun f h9 => s_nil ⟨mk X, fun d' hd' => ?_, oFx hX (hmk X), ?_⟩
  · cases hd'
    rw [hmk]; exact h9.holds d X (by unfold lk; simp)
  · rw [hce] at s
    have e : oRes d0 ops cls (rsE E) I0 (oUp val i (mk X)) i = [] := by
      unfold oRes
      rw [hil, rsE_get hX]; rfl
    rw [e]; exact s
end
section
variable {P : Program} {ops : List Oper} {cls cons : List (List Nat)} {I0 : List (List Own)} {Bs : List Own} {w0 : World} {a0 : Act} {T : List (Nat × Nat × Nat)} {N : Nat} {L : List (Nat × Value)} {Df : List Deferred} {d : Tmp} {op : Op} {ty : TypeId} {pos : String} {af : Array Edge} {l : List Oper} {i : Nat} {X : Value}
theorem oPu {E : List (FcE Value)} (hT : FT P T) (h : Sl N a0 L Df) (hev : evR T (mOf ops (cls.getD i []) L E op) op = some X) (hX : E.getD i .n = .v X) (hok : (Nat.blt d N && (Nat.blt i ops.length && (cons.getD i []).isEmpty)) = true)
    (k : AllB (ObS oVV undef P ops cls cons (rsE E) I0 (fsE oVV E 0) Bs w0 a0) l (i + 1)) : AllB (ObS oVV undef P ops cls cons (rsE E) I0 (fsE oVV E 0) Bs w0 a0) (⟨some d, op, ty, pos, af, none⟩ :: l) i := oPu0 (fun x => x) (fun _ => rfl) hT h hev hX hok k
end
end Go.Proofs.Ythjkhnhiciamaaa
