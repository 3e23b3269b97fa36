/- Own overlays, changed in place: own rows that are sorted; ranges over functions within a round; regions that draw their order, in which what was there ahead may be read; sets; what the package asks of overlays and the reference asks too; no Go in it. -/
import Derived.Test.YthjkhnhiciamaaaOv
set_option linter.unusedVariables false
set_option linter.unusedSimpArgs false
set_option linter.unusedSectionVars false
namespace Go.Proofs.Ythjkhnhiciamaaa
open Go.RowKit
/-! ### a range over a function within a round of another one -/
/-! ### stores into an element of an own slice -/
section
variable {P : Program} {ops : Array Oper} {Q : Act → World → Prop} {l : List Oper} {a : Act} {w w0 : World} {N : Nat} {L : List (Nat × Value)} {Df : List Deferred} {B : List Own} {d : Tmp} {ty : TypeId} {pos : String} {af : Array Edge} {x y z : Operand} {t e : TypeId}
/-! ### a set of numbers as a map to nothing -/
end
theorem elm_of {P : Program} {e : TypeId} {sz by_ : Nat} (h : ((P.info? e).bind fun i => i.zero.map fun z => (i.size, i.bytes, z.cells.size)) = some (sz, by_, sz)) (h0 : 0 < sz) : Elm P e sz by_ := by
  cases hi : P.info? e with
  | none => rw [hi] at h; simp at h
  | some i =>
    rw [hi] at h
    cases hz : i.zero with
    | none => simp [hz] at h
    | some z =>
      simp only [Option.bind_some, hz, Option.map_some, Option.some.injEq, Prod.mk.injEq] at h
      exact ⟨⟨i, z, hi, hz, h.1, h.2.1, h.2.2⟩, h0⟩
/-! ### pointers and nil -/
section
variable {P : Program} {ρ : Operand → Value} {d : Option Tmp} {ty : TypeId} {pos : String} {af : Array Edge} {g : Option (Nat × Bool)} {x y : Operand} {t t' e : TypeId}
end
end Go.Proofs.Ythjkhnhiciamaaa

namespace Go.Proofs.Ythjkhnhiciamaaa
open Go.RowKit
/-! ### where a node of a number lies -/
def ixL (L : List N3) (no : Int) : Nat := L.findIdx fun x => decide (x.1.me.1 = no)
/-! ### sorted by numbers -/
/-! ### which overlays may be, as the package asks it -/
/-! ### three rows as one -/
/-! ### neighbours -/
end Go.Proofs.Ythjkhnhiciamaaa

namespace Go.Proofs.Ythjkhnhiciamaaa
open Go.RowKit
/-! ### an own row of nodes, changed in place -/
/-- what stands at i, ahead of all others -/
theorem St.bring {w0 w : World} {B : List Own} {p : Own} (s : St w0 B w) (i : Nat) (hi : B[i]? = some p) : St w0 (p :: B.eraseIdx i) w := s.perm (perm_front hi)
end Go.Proofs.Ythjkhnhiciamaaa

namespace Go.Proofs.Ythjkhnhiciamaaa
open Go.RowKit
/-! ### one more, in its place -/
theorem pw_nds {K L : List N3} (h : nds K = nds L) (hL : L.Pairwise fun a b => a.1.me.1 < b.1.me.1) : K.Pairwise fun a b => a.1.me.1 < b.1.me.1 := by
  have h1 : (nds L).Pairwise fun a b => a.me.1 < b.me.1 := by unfold nds; rw [List.pairwise_map]; exact hL
  rw [← h] at h1
  unfold nds at h1
  rw [List.pairwise_map] at h1; exact h1
theorem mem_nds {K L : List N3} (h : nds K = nds L) {P : Nd → Prop} (hL : ∀ y ∈ L, P y.1) : ∀ y ∈ K, P y.1 := fun y hy => by
  have : y.1 ∈ nds L := by rw [← h]; exact List.mem_map.2 ⟨y, hy, rfl⟩
  obtain ⟨z, hz, e⟩ := List.mem_map.1 this
  rw [← e]; exact hL z hz
/-! ### who lives, as a set -/
/-! ### an overlay opened: copied, with a pointer to one node -/
def OpE (w : World) (N : TypeId) (L : List N3) (no : Int) : Asrt := fun v w9 =>
  (∃ k, cE L no = k ∧ k ≠ 0 ∧ v = .tuple #[.agg #[nilV], .pointer none, .int .i64 k]) ∨
  (cE L no = 0 ∧ ∃ vq K ks, v = .tuple #[.agg #[vq], .pointer (some (elAddr vq (ixL L no * 68))), .int .i64 0] ∧ nds K = nds L ∧ St w [.sl vq N 68 K.length (n3Cells K), .grp ks (RwL K)] w9)
theorem OpE.n {w w9 : World} {N : TypeId} {L : List N3} {no k : Int} {v : Value} (h : OpE w N L no v w9) (hk : cE L no = k) (h0 : k ≠ 0) : v = .tuple #[.agg #[nilV], .pointer none, .int .i64 k] := by
  rcases h with ⟨q, h1, _, h3⟩ | ⟨h1, _⟩
  · rw [h3, ← h1, hk]
  · exact absurd (hk.symm.trans h1) h0
theorem OpE.y {w w9 : World} {N : TypeId} {L : List N3} {no : Int} {v : Value} (h : OpE w N L no v w9) (hk : cE L no = 0) : ∃ vq K ks, v = .tuple #[.agg #[vq], .pointer (some (elAddr vq (ixL L no * 68))), .int .i64 0] ∧ nds K = nds L ∧ St w [.sl vq N 68 K.length (n3Cells K), .grp ks (RwL K)] w9 := by
  rcases h with ⟨q, h1, h2, _⟩ | ⟨_, h3⟩
  · exact absurd (h1.symm.trans hk) h2
  · exact h3
theorem RS.nds {K L : List N3} (h : RS L) (e : nds K = nds L) : RS K :=
  ⟨fun y hy => mem_nds e (P := RN) h.rn y hy, pw_nds e h.inc, by have : memL K = memL L := by rw [← mems_nd, ← mems_nd, e]
                                                                 rw [this]; exact h.ring⟩
/-! ### one node of them, changed -/
/-! those that go, in place -/
end Go.Proofs.Ythjkhnhiciamaaa

namespace Go.Proofs.Ythjkhnhiciamaaa
open Go.RowKit
/-! ### one leaves: what Fail hands out is the call's own -/
def FlE (w : World) (N : TypeId) (L : List N3) (no : Int) : Asrt := fun v w9 =>
  (∃ k, cE L no = k ∧ k ≠ 0 ∧ v = .tuple #[.agg #[nilV], .int .i64 k]) ∨
  (cE L no = 0 ∧ ∃ vq K ks, v = .tuple #[.agg #[vq], .int .i64 0] ∧ nds K = wosN (nds L) no ∧ St w [.sl vq N 68 K.length (n3Cells K), .grp ks (RwL K)] w9)
theorem FlE.n {w w9 : World} {N : TypeId} {L : List N3} {no k : Int} {v : Value} (h : FlE w N L no v w9) (hk : cE L no = k) (h0 : k ≠ 0) : v = .tuple #[.agg #[nilV], .int .i64 k] := by
  rcases h with ⟨q, h1, _, h3⟩ | ⟨h1, _⟩
  · rw [h3, ← h1, hk]
  · exact absurd (hk.symm.trans h1) h0
theorem FlE.y {w w9 : World} {N : TypeId} {L : List N3} {no : Int} {v : Value} (h : FlE w N L no v w9) (hk : cE L no = 0) : ∃ vq K ks, v = .tuple #[.agg #[vq], .int .i64 0] ∧ nds K = wosN (nds L) no ∧ St w [.sl vq N 68 K.length (n3Cells K), .grp ks (RwL K)] w9 := by
  rcases h with ⟨q, h1, h2, _⟩ | ⟨_, h3⟩
  · exact absurd (h1.symm.trans hk) h2
  · exact h3
theorem FlE.any {w w9 : World} {N : TypeId} {L : List N3} {vo : Value} {no : Int} {v : Value} (h : FlE w N L no v w9) (e : Ext w w9) : OvE w (RdL vo L) (cfN L no) (cE L no) v w9 := by
  rcases h with ⟨k, h1, h2, rfl⟩ | ⟨h1, vq, K, ks, rfl, hk, s⟩
  · exact ovE_no ((St.start w).more e) (cf_no h1 h2) h1
  · exact ovE_ok h1 (ovP_2 (by rw [cf_ok h1, hk]) s)
/-! ### part -/
/-! ### the first d told -/
end Go.Proofs.Ythjkhnhiciamaaa
