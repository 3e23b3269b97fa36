/- Ways that meet again, calls that panic; ranges over functions, a round of which may leave early; no Go in it. -/
import Derived.DefersIn
import Derived.RecoverIn
import Derived.Laws.OwnMore
import Derived.Lib.UnsafeStr
import Derived.MapKept
import Derived.Lib.AppendStr
import Derived.RangeFuncLeaves
import Derived.Test.YtbjgpimabgcipaaEt
set_option linter.unusedVariables false
set_option linter.unusedSimpArgs false
set_option linter.unusedSectionVars false
namespace Go.Proofs.Ytbjgpimabgcipaa
open Go.RowKit

/-! ### ways that meet again; panics -/
section
variable {ro : Option Nat} {P : Program} {Q : Exit → Act → World → Prop} {K : Act → World → Prop} {a : Act} {w w0 : World} {N i : Nat} {L : List (Nat × Value)} {Df : List Deferred} {B : List Own} {ch : List PanicEntry}
theorem Sl.deferred {a : Act} (h : Sl N a L Df) (d : Deferred) : Sl N { a with defers := d :: a.defers } L (d :: Df) := ⟨h.size, by rw [h.defers], h.holds⟩
end

/-! ### a deferred closure that recovers -/
section
variable {P : Program} {a : Act} {w w0 : World} {N : Nat} {L : List (Nat × Value)} {Df : List Deferred} {B : List Own}
section
variable {ops : Array Oper} {Q : Exit → Act → List Frame → World → Prop} {cs : List Frame} {i : Nat} {rest : List Nat} {o : Oper} {V : Value} {w' : World}
end
end
/-! ### the door -/
section
variable {P : Program} {a : Act} {w w0 : World} {N : Nat} {L : List (Nat × Value)} {B : List Own} {fn : Func} {R : Ending → World → Prop}
end

/-! ### maps that the call makes: the block's entries as they stand -/
section
variable {P : Program} {ops : Array Oper} {Q : Act → World → Prop} {l : List Oper} {a : Act} {w w0 : World} {N : Nat} {L : List (Nat × Value)} {Df : List Deferred} {B : List Own} {d : Tmp} {ty : TypeId} {pos : String} {af : Array Edge} {x y z : Operand} {t : TypeId}
end

/-! ### bytes that are made; a text over them -/
section
variable {P : Program} {ops : Array Oper} {Q : Act → World → Prop} {l : List Oper} {a : Act} {w w0 : World} {N : Nat} {L : List (Nat × Value)} {Df : List Deferred} {B : List Own} {d : Tmp} {ty : TypeId} {pos : String} {af : Array Edge} {x y : Operand} {t e : TypeId}
end

/-! ### a part of a block, stored at once -/
section
variable {P : Program} {ops : Array Oper} {Q : Act → World → Prop} {l : List Oper} {a : Act} {w w0 : World} {N : Nat} {L : List (Nat × Value)} {Df : List Deferred} {B : List Own} {d : Tmp} {ty : TypeId} {pos : String} {af : Array Edge} {x y : Operand} {t : TypeId} {fn : Func}
end

/-! ### append of a text's bytes -/
section
variable {P : Program} {ops : Array Oper} {Q : Act → World → Prop} {l : List Oper} {a : Act} {w w0 : World} {N : Nat} {L : List (Nat × Value)} {Df : List Deferred} {B : List Own} {d : Tmp} {ty : TypeId} {pos : String} {af : Array Edge} {x y : Operand} {t u e : TypeId}
end
section
variable {P : Program} {ρ : Operand → Value} {d : Option Tmp} {ty : TypeId} {pos : String} {af : Array Edge} {g : Option (Nat × Bool)} {x y : Operand} {t t' : TypeId} {k : IntKind} {m n : Int}
end
end Go.Proofs.Ytbjgpimabgcipaa

namespace Go.Proofs.Ytbjgpimabgcipaa
open Go.RowKit
/-! ### ranges over functions, a round of which may leave early by 'ret' -/
section
variable {N : Nat} {a : Act} {L : List (Nat × Value)} {Df : List Deferred}
end
/-- the way in which a round is left -/
def leftBy (q : Bool) : Exit → Prop
  | .normal => q = false
  | .ret => q = true
  | _ => False
/-- the record's state and pending jump behind a round -/
def lst (q : Bool) : LoopState := bif q then .done else .ready
def lpe (q : Bool) : Option Code := bif q then some .ret else none
/-- ahead of round d: was the one ahead of it left early -/
def lq (q : Nat → Bool) : Nat → Bool | 0 => false | d + 1 => q d
/-- A RANGE OVER A FUNCTION, round d of which leaves early by 'ret' just if q d: J d is what the caller may own behind d rounds. -/
theorem c_rangeE {P : Program} {N : Nat} {a : Act} {L : List (Nat × Value)} {Df : List Deferred} {w w0 : World} {B : List Own} {g : Operand} {ps : Array Tmp} {assign body : Code} {f : FuncId} {lb : Array Value} {Q : Exit → Act → World → Prop}
    (J : Nat → List Own → Prop) (A0 : List Own) (X : List Own) (m : Nat) (q : Nat → Bool) (arg : Nat → List Value) (h : Sl N a L Df) (s : St w0 B w) (hg : evo L g = some (.func (.func f) #[] lb)) (hf : Fnc P f)
    (hB : B.Perm (X ++ A0)) (hJ0 : J 0 A0) (hps : ∀ d, (arg d).length = ps.size)
    (hiter : ∀ (l : Nat) (w1 : World) (GG : Nat → Own → Prop) (g0 : Own), GG 0 g0 → St w0 (X ++ [g0]) w1 →
      (∀ (d : Nat) (B' : List Own) (w' : World) (i : Nat) (g : Own), d < m → (∀ j, j < d → q j = false) → GG d g → St w0 B' w' → B'[i]? = some g → Yields P l (arg d).toArray w' (fun v w'' => v = .bool (!q d) ∧ ∃ g', GG (d + 1) g' ∧ St w0 (B'.set i g') w'')) →
      Calls P f (#[.func (.yield l) #[] #[]] ++ lb) w1 (fun e w' => (∃ v, e = .returned v) ∧ ∃ d g, GG d g ∧ St w0 (X ++ [g]) w' ∧ d ≤ m ∧ (∀ j, j + 1 < d → q j = false) ∧ (lq q d = false → d = m)))
    (hround : ∀ (l D d : Nat) (rc : LoopState → Loop) (R A : List Own) (w1 : World), d < m → (∀ j, j < d → q j = false) → J d A → St w0 (.blk l (.loop (rc .ready)) :: .blk D (.deferred (some [])) :: (A ++ R)) w1 →
      assign.wpIn (FR (some l)) 0 P (Exit.then (fun a1 w2 => ∃ X1, St w0 (.blk l (.loop (rc .ready)) :: X1) w2 ∧ ∀ w3, St w0 (.blk l (.loop (rc .busy)) :: X1) w3 → body.wpIn (FR (some l)) 0 P
          (fun e _ w4 => leftBy (q d) e ∧ ∃ A', J (d + 1) A' ∧ St w0 (.blk l (.loop (rc .busy)) :: .blk D (.deferred (some [])) :: (A' ++ R)) w4) a1 w3) (fun _ _ _ => False))
        { tmps := (ps.zip (arg d).toArray).foldl (fun t (p, v) => t.setIfInBounds p v) a.tmps, defers := [] } w1)
    (hdone : ∀ (D : Nat) (A : List Own) (w2 : World), J m A → (∀ j, j < m → q j = false) → St w0 (.blk D (.deferred (some [])) :: (X ++ A)) w2 → Q .normal { a with defers := { target := .collected D, args := #[] } :: a.defers } w2)
    (hleft : ∀ (D d : Nat) (A : List Own) (w2 : World), d < m → q d = true → (∀ j, j < d → q j = false) → J (d + 1) A → St w0 (.blk D (.deferred (some [])) :: (X ++ A)) w2 → Q .ret { a with defers := { target := .collected D, args := #[] } :: a.defers } w2) :
    (Code.rangeFunc g ps assign body).wpIn (FR none) 0 P Q a w := by
  refine wpIn_rangeFunc (F := FR none) fun fn _ => ?_
  obtain ⟨rq, hrq⟩ : ∃ rq, rq = fun pe st => lrec a w.heap.size fn ps assign body pe st := ⟨_, rfl⟩
  obtain ⟨fnc, e1, e2, e3⟩ := hf.has
  have hl0 : lrec a w.heap.size fn ps assign body none .ready = rq none .ready := by rw [hrq]
  refine ⟨w.heap.size + 1, [{ target := .collected w.heap.size, args := #[] }], (w.alloc (.deferred (some []))).alloc (.loop (rq none .ready)), { target := .fn (.func f) lb, args := #[.func (.yield (w.heap.size + 1)) #[] #[]] }, (w.alloc (.deferred (some []))).alloc (.loop (rq none .ready)), f,
    #[.func (.yield (w.heap.size + 1)) #[] #[]] ++ lb, (w.alloc (.deferred (some []))).alloc (.loop (rq none .ready)), ?_, ?_, fun _ _ => trivial, ?_, (fun hh => by cases hh), ?_⟩
  · rw [hrq]; exact run_enterLoop_outer _ _ _ _ _
  · simp only [resolve, h.ev hg]
    simp [go_sem]
  · simp only [invoke]; exact run_callFunc e1 e2 e3 _ _
  have s1 : St w0 (.blk (w.heap.size + 1) (.loop (rq none .ready)) :: .blk w.heap.size (.deferred (some [])) :: B) ((w.alloc (.deferred (some []))).alloc (.loop (rq none .ready))) := by
    have := (s.new (.deferred (some []))).new (.loop (rq none .ready))
    rwa [World.size_alloc] at this
  have s2 : St w0 ((.blk (w.heap.size + 1) (.loop (rq none .ready)) :: .blk w.heap.size (.deferred (some [])) :: A0) ++ X) ((w.alloc (.deferred (some []))).alloc (.loop (rq none .ready))) :=
    s1.perm ((((hB.trans List.perm_append_comm).cons _).cons _))
  have hnd0 := pairwise_nd_perm s2
  have s3 := s2.group
  refine callsIn_wide.2 ((hiter (w.heap.size + 1) _ (fun d g => ∃ A, J d A ∧ g = .all w0 (.blk (w.heap.size + 1) (.loop (rq (lpe (lq q d)) (lst (lq q d)))) :: .blk w.heap.size (.deferred (some [])) :: A) ∧
      (Own.blk (w.heap.size + 1) (.loop (rq (lpe (lq q d)) (lst (lq q d)))) :: .blk w.heap.size (.deferred (some [])) :: A).Pairwise fun p q => ∀ k, p.at k → ¬ q.at k)
      _ ⟨A0, hJ0, rfl, hnd0⟩ (s3.perm (List.perm_append_comm (l₁ := [_]))) ?_).mono ?_)
  · rintro d B' w' i g hd hq0 ⟨A, hJ, rfl, hnd⟩ s' hi
    have hlq : lq q d = false := by cases d with | zero => rfl | succ d => exact hq0 d (Nat.lt_succ_self d)
    rw [hlq] at hi hnd
    have hil := (List.getElem?_eq_some_iff.1 hi).1
    have s4 : St w0 ((.blk (w.heap.size + 1) (.loop (rq none .ready)) :: .blk w.heap.size (.deferred (some [])) :: A) ++ B'.eraseIdx i) w' := (s'.perm (perm_front hi)).ungroup hnd
    have hl := s4.get 0 rfl
    have hy := run_yield (P := P) (args := (arg d).toArray) hl (by rw [hrq, List.size_toArray]; exact hps d)
    refine ⟨_, _, _, _, hy, ?_⟩
    have hw := hround (w.heap.size + 1) w.heap.size d (rq none) (B'.eraseIdx i) A w' hd hq0 hJ (by simpa using s4)
    subst hrq
    refine roundIn_of_wpIn (F := Fence.wide) (n := 0) trivial (Go.wpIn_mono hw ?_)
    intro e a1 w2 he
    cases e with
    | normal =>
      obtain ⟨X1, s5, hb⟩ := he
      refine ⟨_, run_beginRound (s5.get 0 rfl) rfl, Go.wpIn_mono (hb _ (s5.putObj 0 rfl _)) ?_⟩
      rintro e2 a3 w4 ⟨hle, A', hJ', s6⟩
      have key : ∀ (jump : Option Code), jump = lpe (q d) → ∃ v w', (Instr.endRound (w.heap.size + 1) jump).run P w4 = .ok v w' ∧ ∃ u, Ending.returned v = .returned u ∧ u = .bool (!q d) ∧ ∃ g', (∃ A, J (d + 1) A ∧ g' = Own.all w0 (.blk (w.heap.size + 1) (.loop (lrec a w.heap.size fn ps assign body (lpe (q d)) (lst (q d)))) :: .blk w.heap.size (.deferred (some [])) :: A) ∧
          (Own.blk (w.heap.size + 1) (.loop (lrec a w.heap.size fn ps assign body (lpe (q d)) (lst (q d)))) :: .blk w.heap.size (.deferred (some [])) :: A).Pairwise fun p q => ∀ k, p.at k → ¬ q.at k) ∧ St w0 (B'.set i g') w' := by
        rintro jump rfl
        refine ⟨_, _, run_endRound _ (s6.get 0 rfl), _, rfl, (by cases q d <;> rfl), _, ⟨A', hJ', rfl, ?_⟩, ?_⟩
        · have hn := pairwise_nd_perm (A := .blk (w.heap.size + 1) (.loop (lrec a w.heap.size fn ps assign body none .busy)) :: .blk w.heap.size (.deferred (some [])) :: A') (R := B'.eraseIdx i) (by simpa using s6)
          exact nd_of_ks (A := .blk (w.heap.size + 1) (.loop (lrec a w.heap.size fn ps assign body none .busy)) :: .blk w.heap.size (.deferred (some [])) :: A') rfl hn
        · have s7 := s6.putObj 0 rfl (.loop (lrec a w.heap.size fn ps assign body (lpe (q d)) (lst (q d))))
          have s8 : St w0 ((.blk (w.heap.size + 1) (.loop (lrec a w.heap.size fn ps assign body (lpe (q d)) (lst (q d)))) :: .blk w.heap.size (.deferred (some [])) :: A') ++ B'.eraseIdx i) _ := s7
          have s9 := s8.group.perm (perm_back hil _)
          cases hqd : q d <;> rw [hqd] at s9 <;> exact s9
      cases e2 with
      | normal => exact key none (by rw [show q d = false from hle]; rfl)
      | ret => exact key (some .ret) (by rw [show q d = true from hle]; rfl)
      | exit _ => exact hle.elim
      | goto _ => exact hle.elim
      | panic _ => exact hle.elim
      | outgrown => exact hle.elim
    | ret => exact he.elim
    | exit _ => exact he.elim
    | goto _ => exact he.elim
    | panic _ => exact he.elim
    | outgrown => exact he.elim
  · rintro e w2 ⟨⟨v, rfl⟩, d, g, ⟨A, hJ, rfl, hnd⟩, s4, hdm, hq0, hend⟩
    have s5 : St w0 ((.blk (w.heap.size + 1) (.loop (rq (lpe (lq q d)) (lst (lq q d)))) :: .blk w.heap.size (.deferred (some [])) :: A) ++ X) w2 := (s4.perm (List.perm_append_comm (l₂ := [_]))).ungroup hnd
    have hl := s5.get 0 rfl
    subst hrq
    refine ⟨lpe (lq q d), _, run_endLoop hl (by cases lq q d <;> simp [lrec, lst]), ?_⟩
    have s6 := s5.putObj 0 rfl (.loop { lrec a w.heap.size fn ps assign body (lpe (lq q d)) (lst (lq q d)) with state := .exhausted })
    have s7 := (s6.pick (.blk w.heap.size (.deferred (some [])) :: A ++ X) (List.sublist_cons_self _ _)).perm (List.Perm.cons _ List.perm_append_comm)
    cases hqd : lq q d with
    | false =>
      obtain rfl := hend hqd
      refine hdone _ A _ hJ (fun j hj => ?_) (by rw [hqd] at s7; exact s7)
      by_cases h1 : j + 1 < d
      · exact hq0 j h1
      · have : d = j + 1 := by omega
        subst this; exact hqd
    | true =>
      cases d with
      | zero => cases hqd
      | succ d =>
        refine wpIn_ret ?_
        exact hleft _ d A _ (by omega) hqd (fun j hj => hq0 j (by omega)) hJ (by rw [hqd] at s7; exact s7)
section
variable {P : Program} {fn : Func} {w w0 : World} {N : Nat} {a : Act} {L : List (Nat × Value)} {B : List Own}
end
end Go.Proofs.Ytbjgpimabgcipaa
