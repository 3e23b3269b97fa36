/- Own overlays, changed in place: own rows that are sorted; ranges over functions within a round; regions that draw their order, in which what was there ahead may be read; sets; what the package asks of overlays and the reference asks too; no Go in it. -/
import Derived.Shelf.SlSortCmp.WholeK
import Derived.Test.YtndbijifgalpbaaOv
set_option linter.unusedVariables false
set_option linter.unusedSimpArgs false
set_option linter.unusedSectionVars false
namespace Go.Proofs.Ytndbijifgalpbaa
open Go.RowKit Go.Sort
/-! ### an own slice of members, sorted in place: the library's contract in the walks' words -/
end Go.Proofs.Ytndbijifgalpbaa

namespace Go.Proofs.Ytndbijifgalpbaa
open Go.RowKit
/-! ### regions that draw their order, by resources: what was there ahead may be read till it is used up -/
section
variable {P : Program} {ro : Option Nat} {ops : List Oper} {cls cons : List (List Nat)} {a0 : Act} {Q : Exit → Act → World → Prop} {w0 w1 : World}
end
end Go.Proofs.Ytndbijifgalpbaa

namespace Go.Proofs.Ytndbijifgalpbaa
open Go.RowKit
/-! ### a range over a function within a round of another one -/
/-! ### stores into an element of an own slice -/
section
variable {P : Program} {ops : Array Oper} {Q : Act → World → Prop} {l : List Oper} {a : Act} {w w0 : World} {N : Nat} {L : List (Nat × Value)} {Df : List Deferred} {B : List Own} {d : Tmp} {ty : TypeId} {pos : String} {af : Array Edge} {x y z : Operand} {t e : TypeId}
/-! ### a set of numbers as a map to nothing -/
end
theorem elm_of {P : Program} {e : TypeId} {sz by_ : Nat} (h : ((P.info? e).bind fun i => i.zero.map fun z => (i.size, i.bytes, z.cells.size)) = some (sz, by_, sz)) (h0 : 0 < sz) : Elm P e sz by_ := by
  cases hi : P.info? e with
  | none => rw [hi] at h; simp at h
  | some i =>
    rw [hi] at h
    cases hz : i.zero with
    | none => simp [hz] at h
    | some z =>
      simp only [Option.bind_some, hz, Option.map_some, Option.some.injEq, Prod.mk.injEq] at h
      exact ⟨⟨i, z, hi, hz, h.1, h.2.1, h.2.2⟩, h0⟩
/-! ### pointers and nil -/
section
variable {P : Program} {ρ : Operand → Value} {d : Option Tmp} {ty : TypeId} {pos : String} {af : Array Edge} {g : Option (Nat × Bool)} {x y : Operand} {t t' e : TypeId}
theorem eqIn_ptr {w : World} (ht : P.underlying t = some (.pointer e)) (q : Option Addr) (n : Nat) : (Op.equalIn (n + 1) t (.pointer q) (.pointer none)).run P w = .ok q.isNone w := by
  cases q <;> simp [Op.equalIn, run_underlying ht]
theorem equal_ptr {w : World} (ht : P.underlying t = some (.pointer e)) (q : Option Addr) : (Op.equal t (.pointer q) (.pointer none)).run P w = .ok q.isNone w := eqIn_ptr ht q 9999
theorem ru_neq_ptr0 {q : Option Addr} (ht : P.underlying t = some (.pointer e)) (hx : ρ x = .pointer q) (hy : ρ y = .pointer none) : RunsTo P ⟨d, .binOp .neq t x y t', ty, pos, af, g⟩ ρ (.bool !q.isNone) := fun w => by
  simp [execOp, hx, hy, eqGuard, binOp, equal_ptr ht, Result.andThen]
end
end Go.Proofs.Ytndbijifgalpbaa

namespace Go.Proofs.Ytndbijifgalpbaa
open Go.RowKit
/-! ### where a node of a number lies -/
def ixL (L : List N3) (no : Int) : Nat := L.findIdx fun x => decide (x.1.me.1 = no)
def ptrL (vo : Value) (L : List N3) (no : Int) : Value := bif decide (ixL L no < L.length) then .pointer (some (elAddr vo (ixL L no * 68))) else .pointer none
theorem ix_at {L : List N3} {no : Int} {k : Nat} (hk : k < L.length) (h : ∀ j, j < k → decide ((L.getD j z3).1.me.1 = no) = false) (he : decide ((L.getD k z3).1.me.1 = no) = true) : ixL L no = k := by
  unfold ixL
  rw [List.findIdx_eq hk]
  refine ⟨by rw [n3D hk]; exact he, fun j hj => ?_⟩
  rw [n3D (by omega)]; exact h j hj
theorem ix_none {L : List N3} {no : Int} {k : Nat} (hk : L.length ≤ k) (h : ∀ j, j < k → decide ((L.getD j z3).1.me.1 = no) = false) : ixL L no = L.length := by
  unfold ixL
  rw [List.findIdx_eq_length]
  intro x hx
  obtain ⟨j, hj, rfl⟩ := n3_at hx
  exact h j (by omega)
theorem ix_lt {L : List N3} {no : Int} (h : ixL L no < L.length) : (∀ j, j < ixL L no → decide ((L.getD j z3).1.me.1 = no) = false) ∧ decide ((L.getD (ixL L no) z3).1.me.1 = no) = true := by
  refine ⟨fun j hj => ?_, ?_⟩
  · have := List.not_of_lt_findIdx (p := fun x : N3 => decide (x.1.me.1 = no)) (xs := L) hj
    rw [n3D (by omega)] at this
    simpa using this
  · have := List.findIdx_getElem (p := fun x : N3 => decide (x.1.me.1 = no)) (xs := L) (w := h)
    rw [← n3D h]
    exact this
theorem ix_get {L : List N3} {no : Int} (h : ixL L no < L.length) : L.getD (ixL L no) z3 = getL L no ∧ (getL L no).1.me.1 = no := by
  obtain ⟨h1, h2⟩ := ix_lt h
  have e := get_at h h1 h2
  exact ⟨e.symm, by rw [e]; exact of_decide_eq_true h2⟩
theorem ptr_y {vo : Value} {L : List N3} {no : Int} (h : ixL L no < L.length) : ptrL vo L no = .pointer (some (elAddr vo (ixL L no * 68))) := by unfold ptrL; rw [decide_eq_true h]; rfl
theorem ptr_n {vo : Value} {L : List N3} {no : Int} (h : ¬ ixL L no < L.length) : ptrL vo L no = .pointer none := by unfold ptrL; rw [decide_eq_false h]; rfl
theorem ix_has {L : List N3} {no : Int} (h : ∃ x ∈ L, x.1.me.1 = no) : ixL L no < L.length := by
  obtain ⟨x, hx, e⟩ := h
  exact List.findIdx_lt_length_of_exists ⟨x, hx, decide_eq_true e⟩
theorem ix_lives {L : List N3} {no : Int} (hn : ∀ m ∈ memL L, 0 ≤ m.1) : decide (ixL L no < L.length) = livesB (memL L) no := by
  rw [Bool.eq_iff_iff, decide_eq_true_iff, lives_iff hn]
  constructor
  · intro h
    obtain ⟨e1, e2⟩ := ix_get h
    exact ⟨(getL L no).1.me, List.mem_map.2 ⟨getL L no, by rw [← e1]; exact n3_mem h, rfl⟩, e2⟩
  · rintro ⟨m, hm, e⟩
    obtain ⟨x, hx, rfl⟩ := List.mem_map.1 hm
    exact ix_has ⟨x, hx, e⟩
/-- what lies there behind d rounds -/
def ptJ (vo : Value) (q : Nat → Bool) : Nat → Value | 0 => .pointer none | d + 1 => bif q d then .pointer (some (elAddr vo (d * 68))) else .pointer none
theorem ptJ_now {vo : Value} {q : Nat → Bool} {d : Nat} (h : ∀ j, j < d → q j = false) : ptJ vo q d = .pointer none := by
  cases d with
  | zero => rfl
  | succ d => show (bif q d then _ else _) = _; rw [h d (Nat.lt_succ_self d)]; rfl
def qL (L : List N3) (no : Int) (j : Nat) : Bool := decide ((L.getD j z3).1.me.1 = no)
theorem fnd_y {vo : Value} {L : List N3} {no : Int} {d : Nat} (hd : d < L.length) (h : ∀ j, j < d → qL L no j = false) (he : qL L no d = true) : ptJ vo (qL L no) (d + 1) = ptrL vo L no := by
  show (bif qL L no d then _ else _) = _
  have e := ix_at hd h he
  rw [he, ptr_y (by rw [e]; exact hd), e]; rfl
theorem fnd_n {vo : Value} {L : List N3} {no : Int} (h : ∀ j, j < L.length → qL L no j = false) : ptrL vo L no = .pointer none := ptr_n (by rw [ix_none (Nat.le_refl _) h]; omega)
/-! ### sorted by numbers -/
def srtQ (l : List Mb) (k : Nat) : Bool := decide ((l.getD k zMb).1 < (l.getD (k - 1) zMb).1)
def srtB (l : List Mb) : Bool := (List.range l.length).all fun k => !(decide (0 < k) && srtQ l k)
theorem srt_left {l : List Mb} {k : Nat} (hk : k < l.length) (h0 : 0 < k) (h : srtQ l k = true) : srtB l = false := by
  unfold srtB
  rw [← Bool.not_eq_true, List.all_eq_true]
  intro h9
  have := h9 k (List.mem_range.2 hk)
  rw [h, decide_eq_true h0] at this; cases this
theorem srt_done {l : List Mb} (h : ∀ j, 0 < j → j < l.length → srtQ l j = false) : srtB l = true := by
  unfold srtB
  rw [List.all_eq_true]
  intro j hj
  by_cases h0 : 0 < j
  · rw [h j h0 (List.mem_range.1 hj)]; simp
  · rw [decide_eq_false h0]; rfl
theorem srt_iff {l : List Mb} : srtB l = true ↔ ∀ j, 0 < j → j < l.length → srtQ l j = false := by
  refine ⟨fun h j h0 hj => ?_, srt_done⟩
  cases hq : srtQ l j with
  | false => rfl
  | true => rw [srt_left hj h0 hq] at h; cases h
theorem srt_next {l : List Mb} {k : Nat} (h : ∀ j, k ≤ j → 0 < j → j < l.length → srtQ l j = false) (hk : 0 < k) (hq : srtQ l (k - 1) = false) : ∀ j, k - 1 ≤ j → 0 < j → j < l.length → srtQ l j = false := fun j h1 h2 h3 => by
  by_cases e : j = k - 1
  · subst e; exact hq
  · exact h j (by omega) h2 h3
theorem cmpInt_neg (x y : Int) : cmpInt x y < 0 ↔ x < y := by unfold cmpInt; split <;> (try split) <;> omega
/-! ### which overlays may be, as the package asks it -/
theorem mem_at {L : List N3} {k : Nat} (hk : k < L.length) : (memL L).getD k zMb = (L.getD k z3).1.me := by
  rw [← mbD (by rw [List.length_map]; exact hk), ← n3D hk]; exact List.getElem_map _
theorem fnd_ix {L : List N3} {no : Int} (h : ixL L no < L.length) : findR (memL L) no = some (L.getD (ixL L no) z3).1.me := by
  obtain ⟨h1, h2⟩ := ix_lt h
  have e := find_at (l := memL L) (no := no) (k := ixL L no) (by rw [List.length_map]; exact h) (fun j hj => by rw [mem_at (by omega)]; exact h1 j hj) (by rw [mem_at h]; exact h2)
  rw [e, mem_at h]
theorem fnd_ix0 {L : List N3} {no : Int} (h : ¬ ixL L no < L.length) : findR (memL L) no = none := by
  refine find_no (k := L.length) (by rw [List.length_map]; exact Nat.le_refl _) fun j hj => ?_
  rw [mem_at hj]
  refine decide_eq_false fun e => h (ix_has ⟨_, n3_mem hj, e⟩)
def kbad (L : List N3) (m : Mb) : Bool := decide (ixL L m.1 < L.length) && !decide ((L.getD (ixL L m.1) z3).1.me = m)
theorem kbad_bad {L : List N3} (hr : Rg (memL L)) (m : Mb) : kbad L m = badM (memL L) m := by
  unfold kbad badM refF
  by_cases h : ixL L m.1 < L.length
  · rw [fnd_ix h, decide_eq_true h]
    have h0 := (hr.nos _ (List.mem_map.2 ⟨_, n3_mem h, rfl⟩)).1
    rw [Option.getD_some, decide_eq_true h0]
  · rw [fnd_ix0 h, decide_eq_false h]
    rfl
theorem kb_0 {L : List N3} {m : Mb} (h : decide (ixL L m.1 < L.length) = false) : kbad L m = false := by unfold kbad; rw [h]; rfl
theorem kb_1 {L : List N3} {m : Mb} (h : decide (ixL L m.1 < L.length) = true) : kbad L m = !decide ((L.getD (ixL L m.1) z3).1.me = m) := by unfold kbad; rw [h]; rfl
def kbQ (n : Nd) (L : List N3) (j : Nat) : Bool := kbad L ((knownN n).getD j zMb)
theorem kn_left {n : Nd} {L : List N3} {d : Nat} (hd : d < (knownN n).length) (h : kbQ n L d = true) : (knownN n).any (kbad L) = true := List.any_eq_true.2 ⟨_, mb_mem hd, h⟩
theorem kn_done {n : Nd} {L : List N3} (h : ∀ j, j < (knownN n).length → kbQ n L j = false) : (knownN n).any (kbad L) = false := by
  rw [List.any_eq_false]
  intro x hx
  obtain ⟨j, hj, rfl⟩ := mb_at hx
  rw [show kbad L ((knownN n).getD j zMb) = false from h j hj]; decide
def rvB (L : List N3) (k : Nat) : Bool := !rightN (L.getD k z3).1 || (knownN (L.getD k z3).1).any (kbad L)
theorem ow_no0 {L : List N3} (h : rightR (memL L) = false) : ovR L = false := by unfold ovR; rw [h, Bool.and_false]
theorem ow_no1 {L : List N3} (h : srtB (memL L) = false) : ovR L = false := by
  have : ¬ ∀ j, 0 < j → j < (memL L).length → srtQ (memL L) j = false := fun h9 => by rw [srt_done h9] at h; cases h
  rw [Classical.not_forall] at this
  obtain ⟨k, hk⟩ := this
  rw [Classical.not_imp, Classical.not_imp] at hk
  obtain ⟨h0, h1, h2⟩ := hk
  rw [List.length_map] at h1
  refine rl_left h1 (bv_1 (decide_eq_true h0) ?_)
  have h3 : srtQ (memL L) k = true := by cases hq : srtQ (memL L) k with | true => rfl | false => exact absurd hq h2
  unfold srtQ at h3
  rw [mem_at h1, mem_at (by omega)] at h3
  have := of_decide_eq_true h3
  exact decide_eq_true (by omega)
theorem ow_all {L : List N3} (h0 : rightR (memL L) = true) (h1 : srtB (memL L) = true) : ovR L = (List.range L.length).all fun k => !rvB L k := by
  have hg := (rg_iff _).1 h0
  have key : ∀ k, k < L.length → badV L k = rvB L k := fun k hk => by
   have e1 : (decide (0 < k) && decide ((L.getD k z3).1.me.1 ≤ (L.getD (k - 1) z3).1.me.1)) = false := by
     by_cases hk0 : 0 < k
     · have h2 := srt_iff.1 h1 k hk0 (by rw [List.length_map]; exact hk)
       unfold srtQ at h2
       rw [mem_at hk, mem_at (by omega)] at h2
       have h3 := of_decide_eq_false h2
       have h4 := (List.pairwise_iff_getElem.1 hg.nd (k - 1) k (by rw [List.length_map]; omega) (by rw [List.length_map]; exact hk) (by omega)).1
       rw [mbD, mbD, mem_at hk, mem_at (by omega)] at h4
       rw [decide_eq_true hk0, decide_eq_false (by omega)]; rfl
     · rw [decide_eq_false hk0]; rfl
   have e2 : (knownN (L.getD k z3).1).any (badM (memL L)) = (knownN (L.getD k z3).1).any (kbad L) := by
     congr 1; funext m; exact (kbad_bad hg m).symm
   unfold badV rvB
   rw [e1, e2, Bool.false_or]
  unfold ovR
  rw [h0, Bool.and_true, Bool.eq_iff_iff, List.all_eq_true, List.all_eq_true]
  exact ⟨fun h k hk => by rw [← key k (List.mem_range.1 hk)]; exact h k hk, fun h k hk => by rw [key k (List.mem_range.1 hk)]; exact h k hk⟩
theorem ow_left {L : List N3} {d : Nat} (h0 : rightR (memL L) = true) (h1 : srtB (memL L) = true) (hd : d < L.length) (h : rvB L d = true) : ovR L = false := by
  rw [ow_all h0 h1, ← Bool.not_eq_true, List.all_eq_true]
  intro h9
  have := h9 d (List.mem_range.2 hd)
  rw [h] at this; cases this
theorem ow_done {L : List N3} (h0 : rightR (memL L) = true) (h1 : srtB (memL L) = true) (h : ∀ j, j < L.length → rvB L j = false) : ovR L = true := by
  rw [ow_all h0 h1, List.all_eq_true]
  intro k hk
  rw [h k (List.mem_range.1 hk)]; rfl
theorem rv_0 {L : List N3} {k : Nat} (h : rightN (L.getD k z3).1 = false) : rvB L k = true := by unfold rvB; rw [h]; rfl
theorem rv_1 {L : List N3} {k : Nat} (h : rightN (L.getD k z3).1 = true) : rvB L k = (knownN (L.getD k z3).1).any (kbad L) := by unfold rvB; rw [h]; rfl
/-! ### three rows as one -/
theorem three_flat (a b c : List Mb) : [a, b, c].flatten = a ++ (b ++ c) := by simp
theorem three_rd {w : World} {u v x : Value} {a b c : List Mb} (h1 : RdZ w u 33 a.length (mbCells a)) (h2 : RdZ w v 33 b.length (mbCells b)) (h3 : RdZ w x 33 c.length (mbCells c)) : ∀ k, k < [u, v, x].length → RdZ w ([u, v, x].getD k undef) 33 ([a, b, c].getD k []).length (mbCells ([a, b, c].getD k [])) := fun k hk => by
  match k, hk with
  | 0, _ => exact h1
  | 1, _ => exact h2
  | 2, _ => exact h3
/-! ### neighbours -/
end Go.Proofs.Ytndbijifgalpbaa

namespace Go.Proofs.Ytndbijifgalpbaa
open Go.RowKit
/-! ### an own row of nodes, changed in place -/
/-- what stands at i, ahead of all others -/
theorem St.bring {w0 w : World} {B : List Own} {p : Own} (s : St w0 B w) (i : Nat) (hi : B[i]? = some p) : St w0 (p :: B.eraseIdx i) w := s.perm (perm_front hi)
end Go.Proofs.Ytndbijifgalpbaa

namespace Go.Proofs.Ytndbijifgalpbaa
open Go.RowKit Go.Sort
/-! ### an own slice of nodes, sorted in place -/
def No3 : Type := { x : N3 // x.2.1.oneCell' = true ∧ x.2.2.oneCell' = true }
instance : Inhabited No3 := ⟨⟨z3, rfl, rfl⟩⟩
/-! ### one more, in its place -/
theorem pw_nds {K L : List N3} (h : nds K = nds L) (hL : L.Pairwise fun a b => a.1.me.1 < b.1.me.1) : K.Pairwise fun a b => a.1.me.1 < b.1.me.1 := by
  have h1 : (nds L).Pairwise fun a b => a.me.1 < b.me.1 := by unfold nds; rw [List.pairwise_map]; exact hL
  rw [← h] at h1
  unfold nds at h1
  rw [List.pairwise_map] at h1; exact h1
theorem mem_nds {K L : List N3} (h : nds K = nds L) {P : Nd → Prop} (hL : ∀ y ∈ L, P y.1) : ∀ y ∈ K, P y.1 := fun y hy => by
  have : y.1 ∈ nds L := by rw [← h]; exact List.mem_map.2 ⟨y, hy, rfl⟩
  obtain ⟨z, hz, e⟩ := List.mem_map.1 this
  rw [← e]; exact hL z hz
/-! ### who lives, as a set -/
/-! ### an overlay opened: copied, with a pointer to one node -/
def OpE (w : World) (N : TypeId) (L : List N3) (no : Int) : Asrt := fun v w9 =>
  (∃ k, cE L no = k ∧ k ≠ 0 ∧ v = .tuple #[.agg #[nilV], .pointer none, .int .i64 k]) ∨
  (cE L no = 0 ∧ ∃ vq K ks, v = .tuple #[.agg #[vq], .pointer (some (elAddr vq (ixL L no * 68))), .int .i64 0] ∧ nds K = nds L ∧ St w [.sl vq N 68 K.length (n3Cells K), .grp ks (RwL K)] w9)
theorem OpE.n {w w9 : World} {N : TypeId} {L : List N3} {no k : Int} {v : Value} (h : OpE w N L no v w9) (hk : cE L no = k) (h0 : k ≠ 0) : v = .tuple #[.agg #[nilV], .pointer none, .int .i64 k] := by
  rcases h with ⟨q, h1, _, h3⟩ | ⟨h1, _⟩
  · rw [h3, ← h1, hk]
  · exact absurd (hk.symm.trans h1) h0
theorem OpE.y {w w9 : World} {N : TypeId} {L : List N3} {no : Int} {v : Value} (h : OpE w N L no v w9) (hk : cE L no = 0) : ∃ vq K ks, v = .tuple #[.agg #[vq], .pointer (some (elAddr vq (ixL L no * 68))), .int .i64 0] ∧ nds K = nds L ∧ St w [.sl vq N 68 K.length (n3Cells K), .grp ks (RwL K)] w9 := by
  rcases h with ⟨q, h1, h2, _⟩ | ⟨_, h3⟩
  · exact absurd (h1.symm.trans hk) h2
  · exact h3
theorem RS.nds {K L : List N3} (h : RS L) (e : nds K = nds L) : RS K :=
  ⟨fun y hy => mem_nds e (P := RN) h.rn y hy, pw_nds e h.inc, by have : memL K = memL L := by rw [← mems_nd, ← mems_nd, e]
                                                                 rw [this]; exact h.ring⟩
/-! ### one node of them, changed -/
/-! those that go, in place -/
end Go.Proofs.Ytndbijifgalpbaa

namespace Go.Proofs.Ytndbijifgalpbaa
open Go.RowKit
/-! ### one leaves: what Fail hands out is the call's own -/
def FlE (w : World) (N : TypeId) (L : List N3) (no : Int) : Asrt := fun v w9 =>
  (∃ k, cE L no = k ∧ k ≠ 0 ∧ v = .tuple #[.agg #[nilV], .int .i64 k]) ∨
  (cE L no = 0 ∧ ∃ vq K ks, v = .tuple #[.agg #[vq], .int .i64 0] ∧ nds K = wosN (nds L) no ∧ St w [.sl vq N 68 K.length (n3Cells K), .grp ks (RwL K)] w9)
theorem FlE.n {w w9 : World} {N : TypeId} {L : List N3} {no k : Int} {v : Value} (h : FlE w N L no v w9) (hk : cE L no = k) (h0 : k ≠ 0) : v = .tuple #[.agg #[nilV], .int .i64 k] := by
  rcases h with ⟨q, h1, _, h3⟩ | ⟨h1, _⟩
  · rw [h3, ← h1, hk]
  · exact absurd (hk.symm.trans h1) h0
theorem FlE.y {w w9 : World} {N : TypeId} {L : List N3} {no : Int} {v : Value} (h : FlE w N L no v w9) (hk : cE L no = 0) : ∃ vq K ks, v = .tuple #[.agg #[vq], .int .i64 0] ∧ nds K = wosN (nds L) no ∧ St w [.sl vq N 68 K.length (n3Cells K), .grp ks (RwL K)] w9 := by
  rcases h with ⟨q, h1, h2, _⟩ | ⟨_, h3⟩
  · exact absurd (h1.symm.trans hk) h2
  · exact h3
theorem FlE.any {w w9 : World} {N : TypeId} {L : List N3} {vo : Value} {no : Int} {v : Value} (h : FlE w N L no v w9) (e : Ext w w9) : OvE w (RdL vo L) (cfN L no) (cE L no) v w9 := by
  rcases h with ⟨k, h1, h2, rfl⟩ | ⟨h1, vq, K, ks, rfl, hk, s⟩
  · exact ovE_no ((St.start w).more e) (cf_no h1 h2) h1
  · exact ovE_ok h1 (ovP_2 (by rw [cf_ok h1, hk]) s)
/-! ### part -/
/-! ### the first d told -/
end Go.Proofs.Ytndbijifgalpbaa
