/- Entries, stacks and their bytes: what may be, what is written, what is read; slices of entries; no Go in it. -/
import Derived.Lib.AppendZeros
import Derived.Deep.Slices
import Derived.Test.YtbjgpimabgcipaaPr
set_option linter.unusedVariables false
set_option linter.unusedSimpArgs false
set_option linter.unusedSectionVars false
namespace Go.Proofs.Ytbjgpimabgcipaa
open Go.RowKit
/-! ### entries: a kind, an identifier, a host -/
abbrev Ent := Int × Id × Int
def eArr (e : Ent) : Array Value := (Value.int .i64 e.1 :: ((idArr e.2.1).toList ++ [.int .i64 e.2.2])).toArray
theorem eArr_size (e : Ent) : (eArr e).size = 34 := by simp [eArr]
theorem eArr_list (e : Ent) : (eArr e).toList = Value.int .i64 e.1 :: ((idArr e.2.1).toList ++ [.int .i64 e.2.2]) := rfl
def eCells (l : List Ent) : List Value := l.flatMap fun e => (eArr e).toList
theorem eCells_len (l : List Ent) : (eCells l).length = l.length * 34 := cells_len _ 34 (fun x => by rw [Array.length_toList, eArr_size]) l
/-! ### which may be -/
/-! ### bytes -/
/-! ### reading -/
end Go.Proofs.Ytbjgpimabgcipaa

namespace Go.Proofs.Ytbjgpimabgcipaa
/-! ### what is written is read -/
/-! ### what is read, written, is what was there -/
end Go.Proofs.Ytbjgpimabgcipaa

namespace Go.Proofs.Ytbjgpimabgcipaa
open Go.RowKit Go.ChangeShapes Go.WideShapes Go.ChangeAt
/-! ### entries in the program -/
theorem EqV.up {P : Program} {D : Nat} {e : TypeId} {sz : Nat} {V : List Value → Prop} {vl : List Value → Value} (E : EqV P D e sz V vl) : EqV P (D + 1) e sz V vl :=
  ⟨E.len, E.size, E.part, fun d xs ys w hx hy => by
    have := E.eq (d + 1) xs ys w hx hy
    rwa [show d + (D + 1) = d + 1 + D from by omega]⟩
section
variable {P : Program} {a : Act} {w w0 : World} {N : Nat} {L : List (Nat × Value)} {B : List Own} {fn : Func} {T : Asrt}
end
section
variable {P : Program} {ρ : Operand → Value} {d : Option Tmp} {ty : TypeId} {pos : String} {af : Array Edge} {g : Option (Nat × Bool)} {x y : Operand} {t t' e : TypeId} {k : IntKind} {m n : Int}
end
section
variable {P : Program} {ops : Array Oper} {Q : Act → World → Prop} {l : List Oper} {a : Act} {w w0 : World} {N : Nat} {L : List (Nat × Value)} {Df : List Deferred} {B : List Own} {d : Tmp} {ty : TypeId} {pos : String} {af : Array Edge} {x y : Operand} {t t' e : TypeId}
end
/-! ### entries that come in -/
theorem open_entL {H : Type} {enc : TypeId × Value → H} {P : Program} {w : World} {base : Nat} {spare : Nat → Bool} {held : Bool} {t tn ti e : TypeId} {f0 f1 f2 : Field} {fuel : Nat} {cs : List Value} {x : DataW H × List MemPlace} (T : IdTy P ti e) (hc : P.cellsOf ti = 32) (hce : P.cellsOf e = 1) (hn : P.underlying tn = some (.int .i64)) (hcn : P.cellsOf tn = 1)
    (ht : P.underlying t = some (.struct #[f0, f1, f2])) (h0 : f0.type = tn) (h1 : f1.type = ti) (h2 : f2.type = tn) (o0 : f0.offset = 0) (o1 : f1.offset = 1) (o2 : f2.offset = 33) (hct : P.cellsOf t = 34) (h : DataW.trod enc P w base spare held fuel t cs = some x) : ∃ l : Ent, cs = (eArr l).toList := by
  obtain ⟨xs, n, rfl, _, hl, hxl, hel⟩ := DataW.trod_struct ht h
  rw [hct] at hl
  have hx2 : xs.length = 3 := by simpa using hxl
  have e0 := hel 0 f0 rfl
  have e1 := hel 1 f1 rfl
  have e2 := hel 2 f2 rfl
  rw [h0, o0, hcn, List.getElem?_eq_getElem (by omega)] at e0
  rw [h1, o1, hc, List.getElem?_eq_getElem (by omega)] at e1
  rw [h2, o2, hcn, List.getElem?_eq_getElem (by omega)] at e2
  obtain ⟨k, hk, _⟩ := DataW.trod_int hn e0
  obtain ⟨a, ha⟩ := open_idL T hc hce e1
  obtain ⟨h9, hh, _⟩ := DataW.trod_int hn e2
  refine ⟨(k, a, h9), ?_⟩
  rw [eArr_list, ← ha]
  have hdrop : cs.drop 33 = [Value.int .i64 h9] := by
    rw [List.take_of_length_le (by rw [List.length_drop]; omega)] at hh
    exact hh
  have hsplit : cs = (cs.drop 0).take 1 ++ ((cs.drop 1).take 32 ++ cs.drop 33) := by
    rw [List.drop_zero, show cs.drop 33 = (cs.drop 1).drop 32 from by rw [List.drop_drop], List.take_append_drop, List.take_append_drop]
  rw [hk, hdrop] at hsplit
  exact hsplit
theorem open_ent {H : Type} {enc : TypeId × Value → H} {P : Program} {W : World} {r : Reach} {b0 : Nat} {t tn ti e : TypeId} {f0 f1 f2 : Field} {v : Value} {d : DataW H} {ps : List MemPlace} (T : IdTy P ti e) (hc : P.cellsOf ti = 32) (hce : P.cellsOf e = 1) (hn : P.underlying tn = some (.int .i64)) (hcn : P.cellsOf tn = 1)
    (ht : P.underlying t = some (.struct #[f0, f1, f2])) (h0 : f0.type = tn) (h1 : f1.type = ti) (h2 : f2.type = tn) (o0 : f0.offset = 0) (o1 : f1.offset = 1) (o2 : f2.offset = 33) (hct : P.cellsOf t = 34)
    (hval : Value.okWide P W r b0 t v) (h : DataW.Trod enc P W 0 (fun _ => true) true t v d ps) : ∃ l : Ent, v = .agg (eArr l) := by
  have hv : ∃ cs, v = .agg cs := by
    unfold Value.okWide at hval
    simp only [ht] at hval
    obtain ⟨cs, h9, _⟩ := hval
    exact ⟨cs, h9⟩
  obtain ⟨cs, rfl⟩ := hv
  obtain ⟨fuel, hf⟩ := h
  obtain ⟨l, hl⟩ := open_entL T hc hce hn hcn ht h0 h1 h2 o0 o1 o2 hct hf
  refine ⟨l, ?_⟩
  have : cs.toList = (eArr l).toList := by simpa [Value.cells] using hl
  rw [Array.toList_inj.1 this]
theorem open_ents {H : Type} {enc : TypeId × Value → H} {P : Program} {W : World} {r : Reach} {b0 : Nat} {ts t tn ti e : TypeId} {f0 f1 f2 : Field} {v : Value} {d : DataW H} {ps : List MemPlace} (T : IdTy P ti e) (hc : P.cellsOf ti = 32) (hce : P.cellsOf e = 1) (hn : P.underlying tn = some (.int .i64)) (hcn : P.cellsOf tn = 1)
    (hts : P.underlying ts = some (.slice t)) (ht : P.underlying t = some (.struct #[f0, f1, f2])) (h0 : f0.type = tn) (h1 : f1.type = ti) (h2 : f2.type = tn) (o0 : f0.offset = 0) (o1 : f1.offset = 1) (o2 : f2.offset = 33) (hct : P.cellsOf t = 34)
    (hval : Value.okWide P W r b0 ts v) (h : DataW.Trod enc P W 0 (fun _ => true) true ts v d ps) : ∃ ls : List Ent, RdZ W v 34 ls.length (eCells ls) := by
  obtain ⟨a, n, c, rfl⟩ := okWide_slice hts hval
  obtain ⟨fuel, hf⟩ := h
  rcases Go.Deep.open_slice hts hf with ⟨hcs, _⟩ | ⟨a', len, cap, m, k, D, Pl, hcs, _, hl, _, hm, _, hel⟩
  · have : Value.slice a n c = .slice none 0 0 := by simpa [Value.cells] using hcs
    exact ⟨[], rfl, .inl ⟨this, rfl⟩⟩
  · have hv : Value.slice a n c = .slice (some a') len cap := by simpa [Value.cells] using hcs
    have hml : len ≤ m := by rw [hm]; split <;> omega
    have each : ∀ i, ∃ l : Ent, i < len → Has W (a'.add (i * 34)) (eArr l) := fun i => by
      by_cases hi : i < len
      · obtain ⟨cs', hc1, hc2⟩ := hel i (by omega)
        obtain ⟨l, rfl⟩ := open_entL T hc hce hn hcn ht h0 h1 h2 o0 o1 o2 hct hc2
        refine ⟨l, fun _ j u hj => ?_⟩
        rw [hct] at hc1
        obtain ⟨_, hlen, hall⟩ := World.cells?_some hc1
        have hj34 : j < 34 := by have := (Array.getElem?_eq_some_iff.1 hj).1; rw [eArr_size] at this; exact this
        have := hall j hj34
        rw [this, Array.getElem?_toList]; exact hj
      · exact ⟨(0, 0#256, 0), fun h9 => absurd h9 hi⟩
    obtain ⟨L, hL⟩ := Classical.axiomOfChoice each
    refine ⟨(List.range len).map L, ?_, .inr ⟨a', cap, by rw [hv]; simp, by simpa using hl, ?_⟩⟩
    · rw [eCells_len]
    · refine has_flat _ 34 (by decide) (fun x => by rw [Array.length_toList, eArr_size]) _ fun i hi => ?_
      have hi' : i < len := by simpa using hi
      have := hL i hi'
      simpa using this
end Go.Proofs.Ytbjgpimabgcipaa

namespace Go.Proofs.Ytbjgpimabgcipaa
/-! ### what the walks of entries want -/
/-! ### the reference's record -/
/-! ### one entry is read -/
/-! ### a stack is read -/
theorem owns_nil (w : World) (base : Nat) (e : TypeId) (sz : Nat) : Owns w base e sz (.slice none 0 0) 0 [] := ⟨by simp, .inl ⟨rfl, rfl⟩⟩
section
variable {t : ByteArray}
end
theorem St.recell {w0 w : World} {B : List Own} {b : Nat} {C D : Array Value} {u : TypeId} (s : St w0 B w) (i : Nat) (hi : B[i]? = some (.blk b (.cells C u))) (e : C = D) : St w0 (B.set i (.blk b (.cells D u))) w := by
  subst e
  have : B.set i (.blk b (.cells C u)) = B := by
    apply List.ext_getElem?
    intro j
    by_cases h : i = j
    · subst h
      have hl := (List.getElem?_eq_some_iff.1 hi).1
      rw [List.getElem?_set_self hl, hi]
    · rw [List.getElem?_set_ne h]
  rw [this]; exact s
section
variable {P : Program} {ρ : Operand → Value} {d : Option Tmp} {ty : TypeId} {pos : String} {af : Array Edge} {g : Option (Nat × Bool)} {x y : Operand} {t : TypeId}
end
/-! ### pushes -/
/-! ### what the laws want -/
end Go.Proofs.Ytbjgpimabgcipaa
