/- Ways that meet again, calls that panic; ranges over functions, a round of which may leave early; regions that draw their order, by resources, with a tail; no Go in it. -/
import Derived.DefersIn
import Derived.RecoverIn
import Derived.Laws.OwnMore
import Derived.Lib.UnsafeStr
import Derived.MapKept
import Derived.Lib.AppendStr
import Derived.RangeFuncLeaves
import Derived.Test.YtcnnlakcpcofkaaDoorEt
set_option linter.unusedVariables false
set_option linter.unusedSimpArgs false
set_option linter.unusedSectionVars false
namespace Go.Proofs.YtcnnlakcpcofkaaDoor
open Go.RowKit

/-! ### ways that meet again; panics -/
section
variable {ro : Option Nat} {P : Program} {Q : Exit → Act → World → Prop} {K : Act → World → Prop} {a : Act} {w w0 : World} {N i : Nat} {L : List (Nat × Value)} {Df : List Deferred} {B : List Own} {ch : List PanicEntry}
/-- a midpoint: whatever way x goes, it ends normally with mid, or leaves as it would -/
theorem c_join {x : Code} (mid : Act → World → Prop) (h : x.wpIn (FR ro) 0 P (Exit.then mid Q) a w) (hm : ∀ a w, mid a w → Q .normal a w) : x.wpIn (FR ro) 0 P Q a w :=
  wpIn_mono h fun e a w he => by cases e <;> first | exact hm _ _ he | exact he
theorem Sl.deferred {a : Act} (h : Sl N a L Df) (d : Deferred) : Sl N { a with defers := d :: a.defers } L (d :: Df) := ⟨h.size, by rw [h.defers], h.holds⟩
end

/-! ### a deferred closure that recovers -/
section
variable {P : Program} {a : Act} {w w0 : World} {N : Nat} {L : List (Nat × Value)} {Df : List Deferred} {B : List Own}
section
variable {ops : Array Oper} {Q : Exit → Act → List Frame → World → Prop} {cs : List Frame} {i : Nat} {rest : List Nat} {o : Oper} {V : Value} {w' : World}
end
end
/-! ### the door -/
section
variable {P : Program} {a : Act} {w w0 : World} {N : Nat} {L : List (Nat × Value)} {B : List Own} {fn : Func} {R : Ending → World → Prop}
end

/-! ### maps that the call makes: the block's entries as they stand -/
section
variable {P : Program} {ops : Array Oper} {Q : Act → World → Prop} {l : List Oper} {a : Act} {w w0 : World} {N : Nat} {L : List (Nat × Value)} {Df : List Deferred} {B : List Own} {d : Tmp} {ty : TypeId} {pos : String} {af : Array Edge} {x y z : Operand} {t : TypeId}
theorem s_makeMap (h : Sl N a L Df) (s : St w0 B w) (hd : Nat.blt d N = true) (k : ∀ a' w' b, Sl N a' ((d, .map (some b)) :: L) Df → St w0 (.blk b (.map #[] 0) :: B) w' → Lst P ops Q l a' w') :
    Lst P ops Q (⟨some d, .makeMap t none, ty, pos, af, none⟩ :: l) a w :=
  s_does h (R := fun v w' => v = .map (some w.heap.size) ∧ w' = w.alloc (.map #[] 0)) (by simp [Does, execOp, run_makeMap, Result.andThen]) hd fun a' w' v ⟨hv, hw⟩ h' => by
    subst hv; subst hw; exact k _ _ _ h' (s.new _)
theorem s_insert {kt et : TypeId} {kd : TypeDesc} {b : Nat} {es : Array MapEntry} {c : Nat} {K V : Value} (i : Nat) (h : Sl N a L Df) (s : St w0 B w) (ht : P.underlying t = some (.map kt et)) (hk : P.underlying kt = some kd) (hkd : MapKept.IsKey kd K)
    (hx : evo L x = some (.map (some b))) (hy : evo L y = some K) (hz : evo L z = some V) (hi : B[i]? = some (.blk b (.map es c))) (hf : Instr.findNow kd K es.toList 0 = some none)
    (k : ∀ w', St w0 (B.set i (.blk b (.map (es.push { key := K, val := V, born := c }) (c + 1)))) w' → Lst P ops Q l a w') : Lst P ops Q (⟨none, .insert t x y z, ty, pos, af, none⟩ :: l) a w := by
  have hb := s.get i hi
  have hrun : (Instr.mapUpdate t (.map (some b)) K V).run P w = .ok () (w.putObj b (.map (es.push { key := K, val := V, born := c }) (c + 1))) := by
    simp [Instr.mapUpdate, run_underlying ht, MapKept.run_getObj_map hb, MapKept.run_checkKey hk hkd, MapKept.run_findKey hk hf, MapKept.run_setObj_map _ hb, Result.andThen, World.putObj]
  refine s_doesN (R := fun v w' => w' = w.putObj b (.map (es.push { key := K, val := V, born := c }) (c + 1))) ?_ fun w' v hw => by subst hw; exact k _ (s.putObj i hi _)
  simp [Does, execOp, h.ev hx, h.ev hy, h.ev hz, hrun, Result.andThen]
/-- 'v, ok := m[k]' in a map of the call's own -/
theorem s_lookup {kt et : TypeId} {kd : TypeDesc} {b : Nat} {es : Array MapEntry} {c : Nat} {K Z V : Value} {ok : Bool} (i : Nat) (h : Sl N a L Df) (s : St w0 B w) (ht : P.underlying t = some (.map kt et)) (hk : P.underlying kt = some kd) (hkd : MapKept.IsKey kd K) (hZ : (P.info? et).bind (·.zero) = some Z)
    (hx : evo L x = some (.map (some b))) (hy : evo L y = some K) (hi : B[i]? = some (.blk b (.map es c)))
    (hf : (∃ j, Instr.findNow kd K es.toList 0 = some (some (j, V)) ∧ ok = true) ∨ (Instr.findNow kd K es.toList 0 = some none ∧ V = Z ∧ ok = false)) (hd : Nat.blt d N = true)
    (k : ∀ a', Sl N a' ((d, .tuple #[V, .bool ok]) :: L) Df → Lst P ops Q l a' w) : Lst P ops Q (⟨some d, .lookup t x y true, ty, pos, af, none⟩ :: l) a w := by
  have hb := s.get i hi
  have hzr : (zeroValue et).run P w = .ok Z w := by
    cases hi9 : P.info? et with
    | none => simp [hi9] at hZ
    | some info => simp [hi9] at hZ; simp [zeroValue, typeInfo, hi9, hZ, Result.andThen]
  have hrun : (Instr.lookup t (.map (some b)) K true).run P w = .ok (.tuple #[V, .bool ok]) w := by
    rcases hf with ⟨j, hf, rfl⟩ | ⟨hf, rfl, rfl⟩
    · simp [Instr.lookup, run_underlying ht, MapKept.run_getObj_map hb, MapKept.run_checkKey hk hkd, MapKept.run_findKey hk hf, Result.andThen]
    · simp [Instr.lookup, run_underlying ht, MapKept.run_getObj_map hb, MapKept.run_checkKey hk hkd, MapKept.run_findKey hk hf, hzr, Result.andThen]
  refine s_does h (R := fun v w' => v = .tuple #[V, .bool ok] ∧ w' = w) ?_ hd fun a' w' v ⟨hv, hw⟩ h' => by subst hv; subst hw; exact k _ h'
  simp [Does, execOp, h.ev hx, h.ev hy, hrun, Result.andThen]
end

/-! ### bytes that are made; a text over them -/
section
variable {P : Program} {ops : Array Oper} {Q : Act → World → Prop} {l : List Oper} {a : Act} {w w0 : World} {N : Nat} {L : List (Nat × Value)} {Df : List Deferred} {B : List Own} {d : Tmp} {ty : TypeId} {pos : String} {af : Array Edge} {x y : Operand} {t e : TypeId}
end

/-! ### a part of a block, stored at once -/
section
variable {P : Program} {ops : Array Oper} {Q : Act → World → Prop} {l : List Oper} {a : Act} {w w0 : World} {N : Nat} {L : List (Nat × Value)} {Df : List Deferred} {B : List Own} {d : Tmp} {ty : TypeId} {pos : String} {af : Array Edge} {x y : Operand} {t : TypeId} {fn : Func}
end

/-! ### append of a text's bytes -/
section
variable {P : Program} {ops : Array Oper} {Q : Act → World → Prop} {l : List Oper} {a : Act} {w w0 : World} {N : Nat} {L : List (Nat × Value)} {Df : List Deferred} {B : List Own} {d : Tmp} {ty : TypeId} {pos : String} {af : Array Edge} {x y : Operand} {t u e : TypeId}
end
section
variable {P : Program} {ρ : Operand → Value} {d : Option Tmp} {ty : TypeId} {pos : String} {af : Array Edge} {g : Option (Nat × Bool)} {x y : Operand} {t t' : TypeId} {k : IntKind} {m n : Int}
end
end Go.Proofs.YtcnnlakcpcofkaaDoor

namespace Go.Proofs.YtcnnlakcpcofkaaDoor
open Go.RowKit
/-! ### ranges over functions, a round of which may leave early by 'ret' -/
section
variable {N : Nat} {a : Act} {L : List (Nat × Value)} {Df : List Deferred}
end
/-- the record's state and pending jump behind a round -/
def lst (q : Bool) : LoopState := bif q then .done else .ready
section
variable {P : Program} {fn : Func} {w w0 : World} {N : Nat} {a : Act} {L : List (Nat × Value)} {B : List Own}
end
end Go.Proofs.YtcnnlakcpcofkaaDoor

namespace Go.Proofs.YtcnnlakcpcofkaaDoor
open Go.RowKit
/-! ### A region that draws its order: THE LAW OF RESOURCES: each operation is handed what it uses up of the others' own memory (and a rest that it does not see), and hands out its own -/
/-- what is known of some operations' values -/
def msk (l : List Nat) (val : Nat → Value) : Nat → Value := fun j => bif l.any (Nat.beq j) then val j else undef
def upv (val : Nat → Value) (i : Nat) (v : Value) : Nat → Value := fun j => bif Nat.beq j i then v else val j
theorem msk_congr {l : List Nat} {val val' : Nat → Value} (h : ∀ j ∈ l, val j = val' j) : msk l val = msk l val' := by
  funext j
  unfold msk
  cases hb : l.any (Nat.beq j) with
  | false => rfl
  | true =>
    obtain ⟨x, hx, he⟩ := List.any_eq_true.1 hb
    obtain rfl : j = x := by simpa using he
    exact h j hx
theorem upv_same (val : Nat → Value) (i : Nat) (v : Value) : upv val i v i = v := by unfold upv; rw [show Nat.beq i i = true by simp]; rfl
theorem upv_other (val : Nat → Value) {i j : Nat} (v : Value) (h : j ≠ i) : upv val i v j = val j := by
  unfold upv
  cases hb : Nat.beq j i with
  | false => rfl
  | true => exact absurd (by simpa using hb) h
theorem blt_t {i j : Nat} (h : i < j) : Nat.blt i j = true := Nat.ble_eq_true_of_le h
theorem blt_f {i j : Nat} (h : j ≤ i) : Nat.blt i j = false := by
  cases hb : Nat.blt i j with
  | false => rfl
  | true => exact absurd (Nat.le_of_ble_eq_true hb) (by omega)
theorem not_has {l : List Nat} {j : Nat} : (!l.contains j) = true ↔ j ∉ l := by
  rw [Bool.not_eq_true', ← Bool.not_eq_true, List.contains_iff_mem]
/-- the block of a pointer -/
def pbk : Value → Nat
  | .pointer (some a) => a.block
  | _ => 0
section
variable (ops : List Oper) (cls cons : List (List Nat)) (q : Nat)
def okOneC (size i : Nat) (o : Oper) : Bool :=
  (direct o).all (fun j => decide (j < i)) &&
  (cls.getD i []).all (fun j => (direct o).contains j || (direct o).any fun k => (cls.getD k []).contains j) &&
  (match o.dst with | some d => decide (d < size) && (List.range ops.length).all (fun j => j == i || decide (dstOf ops j ≠ some d)) | none => true) &&
  ((o.looksAt ops.toArray).all fun t => (List.range ops.length).all fun j => decide (dstOf ops j ≠ some t) || (cls.getD i []).contains j || (cls.getD j []).contains i) &&
  (decide (cons.getD i []).Nodup && (cons.getD i []).all fun j => (decide (j < ops.length + q) && (decide (ops.length ≤ j) || (cls.getD i []).contains j)) && (List.range ops.length).all fun k => k == i || !(cons.getD k []).contains j)
def okRegC (size : Nat) : Bool := (List.range ops.length).all fun i => match ops[i]? with | some o => okOneC ops cls cons q size i o | none => false
end
section
variable {ops : List Oper} {cls cons : List (List Nat)} {q size : Nat}
theorem okC_at (h : okRegC ops cls cons q size = true) {i : Nat} {o : Oper} (hi : ops[i]? = some o) : okOneC ops cls cons q size i o = true := by
  unfold okRegC at h
  have hlt : i < ops.length := (List.getElem?_eq_some_iff.1 hi).1
  have := List.all_eq_true.1 h i (List.mem_range.2 hlt)
  simpa [hi] using this
theorem okC_direct (h : okRegC ops cls cons q size = true) {i : Nat} {o : Oper} (hi : ops[i]? = some o) :
    (∀ j ∈ direct o, j < i) ∧ ∀ j ∈ cls.getD i [], j ∈ direct o ∨ ∃ k ∈ direct o, j ∈ cls.getD k [] := by
  have := okC_at h hi
  unfold okOneC at this
  simp only [Bool.and_eq_true] at this
  refine ⟨fun j hj => by simpa using List.all_eq_true.1 this.1.1.1.1 j hj, fun j hj => ?_⟩
  have := List.all_eq_true.1 this.1.1.1.2 j hj
  simpa using this
theorem dst_lt {j : Nat} {t : Tmp} (hd : dstOf ops j = some t) : j < ops.length := by obtain ⟨o, ho, _⟩ := getD_lt hd; exact (List.getElem?_eq_some_iff.1 ho).1
theorem okC_dst (h : okRegC ops cls cons q size = true) {i : Nat} {d : Tmp} (hd : dstOf ops i = some d) : d < size ∧ ∀ j, dstOf ops j = some d → j = i := by
  obtain ⟨o, ho, hdo⟩ := getD_lt hd
  have := okC_at h ho
  unfold okOneC at this
  simp only [Bool.and_eq_true, hdo] at this
  have h2 := this.1.1.2
  simp only [decide_eq_true_eq] at h2
  refine ⟨h2.1, fun j hj => ?_⟩
  have := List.all_eq_true.1 h2.2 j (List.mem_range.2 (dst_lt hj))
  simpa [hj] using this
theorem okC_look (h : okRegC ops cls cons q size = true) {i : Nat} {o : Oper} (hi : ops[i]? = some o) : ∀ t ∈ o.looksAt ops.toArray, ∀ j, dstOf ops j = some t → j ∈ cls.getD i [] ∨ i ∈ cls.getD j [] := by
  have := okC_at h hi
  unfold okOneC at this
  simp only [Bool.and_eq_true] at this
  intro t ht j hj
  have h2 := List.all_eq_true.1 (List.all_eq_true.1 this.1.2 t ht) j (List.mem_range.2 (dst_lt hj))
  simpa [hj] using h2
theorem okC_cons (h : okRegC ops cls cons q size = true) {i : Nat} {o : Oper} (hi : ops[i]? = some o) : (cons.getD i []).Nodup ∧ ∀ j ∈ cons.getD i [], j < ops.length + q ∧ (ops.length ≤ j ∨ j ∈ cls.getD i []) ∧ ∀ k, k < ops.length → j ∈ cons.getD k [] → k = i := by
  have := okC_at h hi
  unfold okOneC at this
  simp only [Bool.and_eq_true, decide_eq_true_eq] at this
  obtain ⟨_, h1, h2⟩ := this
  refine ⟨h1, fun j hj => ?_⟩
  have h3 := List.all_eq_true.1 h2 j hj
  simp only [Bool.and_eq_true, Bool.or_eq_true, decide_eq_true_eq, List.contains_iff_mem] at h3
  refine ⟨h3.1.1, h3.1.2, fun k hk hm => ?_⟩
  have h4 := List.all_eq_true.1 h3.2 k (List.mem_range.2 hk)
  simp only [Bool.or_eq_true, beq_iff_eq, Bool.not_eq_true', List.contains_eq_mem, decide_eq_false_iff_not] at h4
  exact h4.resolve_right fun h5 => h5 hm
theorem clsC_lt (hok : okRegC ops cls cons q size = true) : ∀ (i : Nat), i < ops.length → ∀ j ∈ cls.getD i [], j < i := by
  intro i
  induction i using Nat.strongRecOn with
  | _ i ih =>
    intro hi j hj
    have hio : ops[i]? = some ops[i] := by simp [hi]
    obtain ⟨hlt, hcl⟩ := okC_direct hok hio
    rcases hcl j hj with h | ⟨k, hk, hjk⟩
    · exact hlt j h
    · have := hlt k hk
      have := ih k this (by omega) j hjk
      omega
theorem readyC_nil (hok : okRegC ops cls cons q size = true) {listed : Array Bool} (hs : listed.size = ops.length) (h : Region.ready .any ops.toArray listed = []) :
    ∀ i, i < ops.length → listed.getD i false = true := by
  intro i
  induction i using Nat.strongRecOn with
  | _ i ih =>
    intro hi
    cases hb : listed.getD i false with
    | true => rfl
    | false =>
      have hio : ops[i]? = some ops[i] := by simp [hi]
      have hlt := (okC_direct hok hio).1
      have : i ∈ Region.ready .any ops.toArray listed := mem_ready.2 ⟨by simp [hs, hi] at hb ⊢; exact hb, ops[i], by simp [hi], fun e he hbd => by
        have hm : e.on ∈ direct ops[i] := List.mem_map.2 ⟨e, List.mem_filter.2 ⟨by simpa using he, by simpa using hbd⟩, rfl⟩
        exact ih _ (hlt _ hm) (by have := hlt _ hm; omega)⟩
      rw [h] at this; cases this
end
section
variable {P : Program} {ro : Option Nat} {ops : List Oper} {cls cons : List (List Nat)} {a0 : Act} {Q : Exit → Act → World → Prop} {w0 w1 : World}
abbrev Res := (Nat → Value) → List Own
abbrev Fct := (Nat → Value) → Prop
/-- the memory of operation j, or of what was there ahead -/
def resC (ops : List Oper) (cls : List (List Nat)) (Rs : List Res) (I0 : List (List Own)) (val : Nat → Value) (j : Nat) : List Own :=
  bif Nat.blt j ops.length then (Rs.getD j fun _ => []) (msk (j :: cls.getD j []) val) else I0.getD (j - ops.length) []
def fctC (cls : List (List Nat)) (Fs : List Fct) (val : Nat → Value) (j : Nat) : Prop := (Fs.getD j fun _ => True) (msk (j :: cls.getD j []) val)
/-- not used up yet -/
def liveC (ops : List Oper) (cons : List (List Nat)) (listed : Nat → Bool) (j : Nat) : Bool := (Nat.ble ops.length j || listed j) && (List.range ops.length).all fun i => !(listed i && (cons.getD i []).any (Nat.beq j))
theorem live_iff {listed : Nat → Bool} {j : Nat} : liveC ops cons listed j = true ↔ (ops.length ≤ j ∨ listed j = true) ∧ ∀ i, i < ops.length → listed i = true → j ∉ cons.getD i [] := by
  unfold liveC
  rw [Bool.and_eq_true, Bool.or_eq_true, Nat.ble_eq, List.all_eq_true]
  refine and_congr Iff.rfl ⟨fun h i hi hl hm => ?_, fun h i hi => ?_⟩
  · have := h i (List.mem_range.2 hi)
    rw [hl, List.any_eq_true.2 ⟨j, hm, by simp⟩] at this; cases this
  · cases hl : listed i with
    | false => rfl
    | true =>
      cases hb : (cons.getD i []).any (Nat.beq j) with
      | false => rfl
      | true =>
        obtain ⟨x, hx, he⟩ := List.any_eq_true.1 hb
        obtain rfl : j = x := by simpa using he
        exact absurd hx (h i (List.mem_range.1 hi) hl)
/-- what a slot holds -/
def slotC (ops : List Oper) (cl : List Nat) (a0 a : Act) (val : Nat → Value) (t : Tmp) : Prop :=
  match writer ops cl t with
  | some j => a.tmps.getD t undef = val j
  | none => a.tmps.getD t undef = a0.tmps.getD t undef
/-- the last operations come one behind the other -/
theorem wpAny_tailC {q m size : Nat} (hok : okRegC ops cls cons q size = true) (hT : ∀ i, m ≤ i → i < ops.length → ∀ j, j < i → j ∈ cls.getD i []) :
    ∀ (n i : Nat) (listed : Array Bool) (a : Act) (w : World), ops.length = i + n → m ≤ i → listed.size = ops.length → (∀ j, j < i → listed.getD j false = true) → (∀ j, i ≤ j → listed.getD j false = false) →
      wpOpsIn (FR ro) 0 P ops.toArray Q (List.range' i n) a w → wpAnyIn (FR ro) 0 P .any ops.toArray Q n listed a w := by
  intro n
  induction n with
  | zero =>
    intro i listed a w hn him hs h1 h2 h
    have hq : Q .normal a w := by simpa [wpOpsIn] using h
    refine ⟨?_, hq⟩
    cases hr : Region.ready .any ops.toArray listed with
    | nil => rfl
    | cons x xs =>
      have hx : x ∈ Region.ready .any ops.toArray listed := by rw [hr]; exact List.mem_cons_self
      obtain ⟨o, ho, hf, _⟩ := ready_direct hx
      have hlt := (List.getElem?_eq_some_iff.1 ho).1
      have := h1 x (by omega)
      rw [hf hs] at this; cases this
  | succ n ih =>
    intro i listed a w hn him hs h1 h2 h
    have hi : i < ops.length := by omega
    refine ⟨fun hr => ?_, fun k hk => ?_⟩
    · have := readyC_nil hok hs hr i hi
      rw [h2 i (Nat.le_refl _)] at this; cases this
    obtain ⟨o, ho, hf, hd⟩ := ready_direct hk
    have hkl := (List.getElem?_eq_some_iff.1 ho).1
    have hki : k = i := by
      rcases Nat.lt_trichotomy k i with h3 | h3 | h3
      · have := h1 k h3; rw [hf hs] at this; cases this
      · exact h3
      · rcases (okC_direct hok ho).2 i (hT k (by omega) hkl i h3) with h4 | ⟨p, hp, h4⟩
        · have := hd i h4; rw [h2 i (Nat.le_refl _)] at this; cases this
        · have hql := hd p hp
          have hqi : p < i := by
            rcases Nat.lt_or_ge p i with h5 | h5
            · exact h5
            · rw [h2 p h5] at hql; cases hql
          have := clsC_lt hok p (by omega) i h4
          omega
    subst hki
    rw [List.range'_succ, wpOpsIn_cons] at h
    refine wpOpIn_mono (fun a' w' h' => ih (k + 1) _ a' w' (by omega) (by omega) (by simp [hs]) (fun j hj => ?_) (fun j hj => ?_) h') h
    · by_cases e : k = j
      · subst e; have : k < listed.size := by rw [hs]; exact hi
        simp [this]
      · have := h1 j (by omega); simpa [Array.getElem?_setIfInBounds_ne e] using this
    · have e : k ≠ j := by omega
      have := h2 j (by omega); simpa [Array.getElem?_setIfInBounds_ne e] using this
structure JC (ops : List Oper) (cls cons : List (List Nat)) (q : Nat) (Rs : List Res) (I0 : List (List Own)) (Fs : List Fct) (Bs : List Own) (w0 : World) (a0 : Act) (m : Nat) (listed : Array Bool) (a : Act) (w : World) (val : Nat → Value) : Prop where
  size : a.tmps.size = a0.tmps.size
  defers : a.defers = a0.defers
  lsize : listed.size = ops.length
  tail : ∀ i, m ≤ i → listed.getD i false = false
  done : ∀ i d, dstOf ops i = some d → listed.getD i false = true → a.tmps.getD d undef = val i
  rest : ∀ t, (∀ j, dstOf ops j = some t → listed.getD j false = false) → a.tmps.getD t undef = a0.tmps.getD t undef
  closed : ∀ i, listed.getD i false = true → ∀ j ∈ cls.getD i [], listed.getD j false = true
  facts : ∀ i, listed.getD i false = true → fctC cls Fs val i
  st : St w0 (((List.range (ops.length + q)).filter (liveC ops cons fun j => listed.getD j false)).flatMap (resC ops cls Rs I0 val) ++ Bs) w
end
section
variable {P : Program} {ro : Option Nat} {ops : List Oper} {cls cons : List (List Nat)} {a0 : Act} {Q : Exit → Act → World → Prop} {w0 w1 : World}
theorem oc_get {cl : List Nat} {a : Act} {val : Nat → Value} {lk9 : List Tmp} (hl : ∀ t ∈ lk9, slotC ops cl a0 a val t) (t j : Nat) (hm : lk9.contains t = true) (hw : writer ops cl t = some j) : a.tmps.getD t undef = val j := by
  have := hl t (List.contains_iff_mem.1 hm)
  unfold slotC at this
  rw [hw] at this
  exact this
theorem oc_old {cl : List Nat} {a : Act} {val : Nat → Value} {lk9 : List Tmp} (hl : ∀ t ∈ lk9, slotC ops cl a0 a val t) (t : Nat) (hm : lk9.contains t = true) (hw : writer ops cl t = none) {v : Value} (hv : a0.tmps.getD t undef = v) : a.tmps.getD t undef = v := by
  have := hl t (List.contains_iff_mem.1 hm)
  unfold slotC at this
  rw [hw] at this
  exact this.trans hv
theorem oc_out {o : Oper} {a : Act} {v : Value} (D : Tmp) (hd : o.dst = some D) (h : a.tmps.getD D undef = v) : ∀ d, o.dst = some d → a.tmps.getD d undef = v := fun d hd' => by
  rw [hd] at hd'; cases hd'; exact h
theorem oc_none {o : Oper} {a : Act} {v : Value} (hd : o.dst = none) : ∀ d, o.dst = some d → a.tmps.getD d undef = v := fun d hd' => by
  rw [hd] at hd'; cases hd'
theorem oc_sl {N : Nat} {L : List (Nat × Value)} {Df : List Deferred} {b : Act} (news : List (Nat × Value)) (h : Sl N a0 L Df) (hs : b.tmps.size = N) (hd : b.defers = Df)
    (hr : ∀ t, (∀ i, dstOf ops i ≠ some t) → b.tmps.getD t undef = a0.tmps.getD t undef) (hn : Holds b news)
    (hc : ((List.range ops.length).all fun i => match dstOf ops i with | some t => news.any (fun p => Nat.beq p.1 t) | none => true) = true) : Sl N b (news ++ L) Df := by
  refine sl_new (ops := ops) (mH := fun _ => true) news h hs hd (fun t ht => hr t fun i hi => ?_) hn ?_
  · have := List.all_eq_true.1 ht i (List.mem_range.2 (dst_lt hi))
    rw [hi] at this
    simp at this
  · refine List.all_eq_true.2 fun i hi => ?_
    have := List.all_eq_true.1 hc i hi
    cases hdi : dstOf ops i with
    | none => rfl
    | some t => rw [hdi] at this; exact this
end
end Go.Proofs.YtcnnlakcpcofkaaDoor

namespace Go.Proofs.YtcnnlakcpcofkaaDoor
open Go.RowKit
/-! ### obligations of a drawn region, said shorter -/
theorem f9h {a b : Act} {N : Nat} {M : List (Nat × Value)} {Df : List Deferred} (L : List (Nat × Value)) (h : Sl N a M Df) (hs : b.tmps.size = a.tmps.size) (hd : b.defers = a.defers) (H : Holds b L) : Sl N b L Df := fin_slot L (hs.trans h.size) (hd.trans h.defers) (holds_lk H)
section
variable {ops : List Oper} {a0 a : Act} {cl : List Nat} {val : Nat → Value} {lk9 : List Tmp} {v : Value}
theorem oc_g (hl : ∀ t ∈ lk9, slotC ops cl a0 a val t) (t j : Nat) (hw : (lk9.contains t && (writer ops cl t == some j)) = true) (e : val j = v) : a.tmps.getD t undef = v := by
  obtain ⟨h1, h2⟩ := (Bool.and_eq_true _ _).mp hw
  exact (oc_get hl t j h1 (eq_of_beq h2)).trans e
theorem oc_o (hl : ∀ t ∈ lk9, slotC ops cl a0 a val t) (t : Nat) (hw : (lk9.contains t && (writer ops cl t == none)) = true) (hv : a0.tmps.getD t undef = v) : a.tmps.getD t undef = v := by
  obtain ⟨h1, h2⟩ := (Bool.and_eq_true _ _).mp hw
  exact oc_old hl t h1 (eq_of_beq h2) hv
end
theorem oc_u {o : Oper} {a : Act} {v : Value} {N : Nat} {L : List (Nat × Value)} {Df : List Deferred} (D : Tmp) (h : Sl N a L Df) (hv : lk L D = some v) (hd : o.dst = some D) : ∀ d, o.dst = some d → a.tmps.getD d undef = v := oc_out D hd (h.holds D _ hv)
end Go.Proofs.YtcnnlakcpcofkaaDoor
