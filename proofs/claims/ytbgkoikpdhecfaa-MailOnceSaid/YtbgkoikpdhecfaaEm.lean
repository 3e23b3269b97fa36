/- Letters and mails: what may be, what becomes of them; how they come in; no Go in it. -/
import Derived.Lib.SliceRun
import Derived.Deep.Slices
import Derived.Test.YtbgkoikpdhecfaaWp
set_option linter.unusedVariables false
set_option linter.unusedSimpArgs false
set_option linter.unusedSectionVars false
namespace Go.Proofs.Ytbgkoikpdhecfaa
open Go.RowKit
/-! ### letters and mails: what they hold, what may be, what becomes of them -/
abbrev Lt := Int × Int × Int × ByteArray
structure Ml where
  l : List Lt
  last : Int
  now : Int
def zLt : Lt := (0, 0, 0, ⟨#[]⟩)
def zMl : Ml := ⟨[], 0, 0⟩
def ltArr (x : Lt) : Array Value := #[.int .i64 x.1, .int .i64 x.2.1, .int .i64 x.2.2.1, .string x.2.2.2]
def mlArr (m : Ml) (v : Value) : Array Value := #[v, .int .i64 m.last, .int .i64 m.now]
theorem ltArr_size (x : Lt) : (ltArr x).size = 4 := rfl
theorem ltArr_ones (x : Lt) : ∀ v ∈ (ltArr x).toList, v.oneCell' = true := fun v hv => by
  simp only [ltArr, List.mem_cons, List.not_mem_nil, or_false] at hv
  rcases hv with rfl | rfl | rfl | rfl <;> simp [Value.oneCell', Value.cells]
theorem mlArr_ones (m : Ml) (v : Value) (h : v.oneCell' = true) : ∀ u ∈ (mlArr m v).toList, u.oneCell' = true := fun u hu => by
  simp only [mlArr, List.mem_cons, List.not_mem_nil, or_false] at hu
  rcases hu with rfl | rfl | rfl
  · exact h
  · simp [Value.oneCell', Value.cells]
  · simp [Value.oneCell', Value.cells]
theorem ltArr_inj {x y : Lt} (h : (ltArr x).toList = (ltArr y).toList) : x = y := by
  simp only [ltArr, List.cons.injEq, Value.int.injEq, Value.string.injEq, true_and, and_true] at h
  obtain ⟨h1, h2, h3, h4⟩ := h
  exact Prod.ext h1 (Prod.ext h2 (Prod.ext h3 h4))
theorem ltEq (x y : Lt) : decide (x = y) = true ↔ (ltArr x).toList = (ltArr y).toList := by
  rw [decide_eq_true_eq]; exact ⟨fun h => by rw [h], ltArr_inj⟩
def ltCells (l : List Lt) : List Value := l.flatMap fun x => (ltArr x).toList
theorem lt4 : ∀ x : Lt, ((ltArr x).toList).length = 4 := fun _ => rfl
theorem ltCells_len (l : List Lt) : (ltCells l).length = l.length * 4 := cells_len _ 4 lt4 l
theorem ltCells_app (l r : List Lt) : ltCells (l ++ r) = ltCells l ++ ltCells r := List.flatMap_append
theorem ltCells_one (x : Lt) : ltCells [x] = (ltArr x).toList := by simp [ltCells]
theorem ltCells_ones (l : List Lt) : ∀ u ∈ ltCells l, u.oneCell' = true := fun u hu => by
  obtain ⟨x, _, hx⟩ := List.mem_flatMap.1 hu
  exact ltArr_ones x u hx
theorem lt_el (l : List Lt) (j : Nat) (hj : j < l.length) : (((ltCells l).drop (j * 4)).take 4).toArray = ltArr l[j] := by
  unfold ltCells
  rw [cells_el _ 4 lt4 l j hj]
theorem lt_take {w : World} {v : Value} {l : List Lt} (h : RdZ w v 4 l.length (ltCells l)) (k : Nat) (hk : k ≤ l.length) : RdZ w (cutV v k) 4 (l.take k).length (ltCells (l.take k)) := by
  have := h.cut k hk
  unfold ltCells at this
  rw [cells_take _ 4 lt4] at this
  rw [List.length_take, Nat.min_eq_left hk]
  exact this
theorem lt_drop {w : World} {v : Value} {l : List Lt} (h : RdZ w v 4 l.length (ltCells l)) (k : Nat) (hk : k ≤ l.length) : RdZ w (dropV v 4 k) 4 (l.drop k).length (ltCells (l.drop k)) := by
  have h1 := h.drop k hk
  have e : (ltCells l).drop (k * 4) = ltCells (l.drop k) := by
    have := congrArg (List.drop (k * 4)) (ltCells_app (l.take k) (l.drop k))
    rw [List.take_append_drop] at this
    rw [this, List.drop_left' (by rw [ltCells_len, List.length_take, Nat.min_eq_left hk])]
  rw [e] at h1
  rw [List.length_drop]
  exact h1
/-! which may be -/
def adr (n : Int) : Bool := decide (0 ≤ n) && decide (n < 32)
def tck (n : Int) : Bool := decide (0 ≤ n) && decide (n ≤ 1099511627776)
def badL (last : Int) (x : Lt) : Bool := decide (x.1 < 1) || (decide (last < x.1) || (!adr x.2.1 || (!adr x.2.2.1 || decide (300 < x.2.2.2.size))))
def rightL (m : Ml) : Bool := decide (m.l.length ≤ 64) && (tck m.last && (tck m.now && m.l.all fun x => !badL m.last x))
theorem adr_iff (n : Int) : adr n = true ↔ 0 ≤ n ∧ n < 32 := by unfold adr; simp
theorem tck_iff (n : Int) : tck n = true ↔ 0 ≤ n ∧ n ≤ 1099511627776 := by unfold tck; simp
theorem right_iff (m : Ml) : rightL m = true ↔ m.l.length ≤ 64 ∧ (0 ≤ m.last ∧ m.last ≤ 1099511627776) ∧ (0 ≤ m.now ∧ m.now ≤ 1099511627776) ∧ ∀ x ∈ m.l, badL m.last x = false := by
  unfold rightL
  rw [Bool.and_eq_true, Bool.and_eq_true, Bool.and_eq_true, tck_iff, tck_iff, decide_eq_true_eq, List.all_eq_true]
  simp
theorem bad_iff (last : Int) (x : Lt) : badL last x = false ↔ 1 ≤ x.1 ∧ x.1 ≤ last ∧ (0 ≤ x.2.1 ∧ x.2.1 < 32) ∧ (0 ≤ x.2.2.1 ∧ x.2.2.1 < 32) ∧ x.2.2.2.size ≤ 300 := by
  unfold badL adr; simp
/-! what becomes of them -/
def postE (m : Ml) (f t : Int) (d : ByteArray) : Int :=
  bif !rightL m || (!adr f || !adr t) then 1 else bif decide (300 < d.size) then 2 else bif decide (m.l.length = 64) || decide (m.last = 1099511627776) then 8 else 0
def postM (m : Ml) (f t : Int) (d : ByteArray) : Ml := bif decide (postE m f t d = 0) then ⟨m.l ++ [(m.last + 1, f, t, d)], m.last + 1, m.now⟩ else zMl
def postN (m : Ml) (f t : Int) (d : ByteArray) : Int := bif decide (postE m f t d = 0) then m.last + 1 else 0
def passE (m : Ml) (t : Int) : Int := bif !rightL m || decide (t < 0) then 1 else 0
def passM (m : Ml) (t : Int) : Ml := bif decide (passE m t = 0) then { m with now := m.now + min t (1099511627776 - m.now) } else zMl
def atE (m : Ml) (p : Int) : Int := bif !rightL m then 1 else bif decide (0 ≤ p) && decide (p < m.l.length) then 0 else 6
def atL (m : Ml) (p : Int) : Lt := bif decide (atE m p = 0) then m.l.getD p.toNat zLt else zLt
def takeM (m : Ml) (p : Int) : Ml := bif decide (atE m p = 0) then { m with l := m.l.eraseIdx p.toNat } else zMl
def twE (m : Ml) (p : Int) : Int := bif decide (atE m p = 0) then (bif decide (m.l.length = 64) then 8 else 0) else atE m p
def twM (m : Ml) (p : Int) : Ml := bif decide (twE m p = 0) then { m with l := m.l ++ [atL m p] } else zMl
def lastM (m : Ml) (p : Int) : Ml := bif decide (atE m p = 0) then { m with l := m.l.eraseIdx p.toNat ++ [atL m p] } else zMl
def cutLt (x : Lt) : Lt := (x.1, x.2.1, x.2.2.1, x.2.2.2.extract 0 (min x.2.2.2.size 305))
def fewM (m : Ml) : Ml := { m with l := (m.l.take 66).map cutLt }
theorem few_len (m : Ml) : (fewM m).l.length ≤ 66 := by unfold fewM; simp; omega
def mlLike (a b : Ml) : Bool := decide (a.l = b.l) && (decide (a.last = b.last) && decide (a.now = b.now))
theorem like_iff (a b : Ml) : mlLike a b = true ↔ a = b := by
  unfold mlLike
  cases a; cases b; simp
theorem like_self (a : Ml) : mlLike a a = true := (like_iff a a).2 rfl
end Go.Proofs.Ytbgkoikpdhecfaa

namespace Go.Proofs.Ytbgkoikpdhecfaa
open Go.RowKit
/-! ### what the walks of package mail want -/
theorem Owns.low {w : World} {base b : Nat} {e : TypeId} {sz : Nat} {v : Value} {n : Nat} {xs : List Value} (h : Owns w base e sz v n xs) (hb : b ≤ base) : Owns w b e sz v n xs := by
  refine ⟨h.1, ?_⟩
  rcases h.2 with hn | ⟨g, cap, cur, fz, hv, h1, rest⟩
  · exact .inl hn
  · exact .inr ⟨g, cap, cur, fz, hv, Nat.le_trans hb h1, rest⟩
theorem Owns.seq {w : World} {b : Nat} {e : TypeId} {sz : Nat} {v : Value} {n m : Nat} {xs ys : List Value} (h : Owns w b e sz v n xs) (hn : n = m) (hx : xs = ys) : Owns w b e sz v m ys := by subst hn; subst hx; exact h
def ltZ : List (List Value) := [[.int .i64 0], [.int .i64 0], [.int .i64 0], [.string ⟨#[]⟩]]
def mlZ : List (List Value) := [[.slice none 0 0], [.int .i64 0], [.int .i64 0]]
section
variable {P : Program} {ρ : Operand → Value} {d : Option Tmp} {ty : TypeId} {pos : String} {af : Array Edge} {g : Option (Nat × Bool)} {x y z u : Operand} {t t' e : TypeId}
theorem ru_build_lt0 (S : Stt P t ltZ) : RunsTo P ⟨d, .build t #[], ty, pos, af, g⟩ ρ (.agg (ltArr zLt)) := ru_build_st S [] rfl (fun _ _ h => by cases h) rfl
theorem ru_build_lt {a b c : Int} {s : ByteArray} (S : Stt P t ltZ) (hx : ρ x = .int .i64 a) (hy : ρ y = .int .i64 b) (hz : ρ z = .int .i64 c) (hu : ρ u = .string s) : RunsTo P ⟨d, .build t #[(0, x), (1, y), (2, z), (3, u)], ty, pos, af, g⟩ ρ (.agg (ltArr (a, b, c, s))) :=
  ru_build_st S [(0, .int .i64 a), (1, .int .i64 b), (2, .int .i64 c), (3, .string s)] (by simp [hx, hy, hz, hu]) (by
    intro i v hiv; simp only [List.mem_cons, Prod.mk.injEq, List.not_mem_nil, or_false] at hiv
    rcases hiv with ⟨rfl, rfl⟩ | ⟨rfl, rfl⟩ | ⟨rfl, rfl⟩ | ⟨rfl, rfl⟩ <;> exact ⟨_, rfl, rfl⟩) rfl
theorem ru_build_ml0 (S : Stt P t mlZ) : RunsTo P ⟨d, .build t #[], ty, pos, af, g⟩ ρ (.agg (mlArr zMl (.slice none 0 0))) := ru_build_st S [] rfl (fun _ _ h => by cases h) rfl
theorem ru_eql_nilS {a : Option Addr} {n c : Nat} (ht : P.underlying t = some (.slice e)) (hx : ρ x = .slice a n c) (hy : ρ y = .slice none 0 0) : RunsTo P ⟨d, .binOp .eql t x y t', ty, pos, af, g⟩ ρ (.bool a.isNone) := fun w => by
  have hg : (eqGuard .eql t x y (.slice a n c) (.slice none 0 0)).run P w = .ok () w := rfl
  simp only [execOp, hx, hy, Sem.run_bind, hg, Result.andThen_ok, Lib.run_eql_slice_nil w t e a n c 0 0 ht, Sem.run_pure]
end
theorem lt_nil {w : World} {n c : Nat} {l : List Lt} (h : RdZ w (.slice none n c) 4 l.length (ltCells l)) : l = [] := by
  rcases h.2 with ⟨h1, h2⟩ | ⟨p, cap, h1, _⟩
  · exact List.eq_nil_of_length_eq_zero h2
  · cases h1
section
variable {P : Program} {ops : Array Oper} {Q : Act → World → Prop} {l : List Oper} {a : Act} {w w0 : World} {N : Nat} {L : List (Nat × Value)} {Df : List Deferred} {B : List Own} {d : Tmp} {ty : TypeId} {pos : String} {af : Array Edge} {x y : Operand} {t : TypeId}
/-- yield, where what it leaves is one of several -/
theorem s_yieldG {lp : Nat} {cal : Operand} {args : Array Operand} {tys : Array TypeId} (vs : List Value) {V : Value} {G : Own → Prop} (i : Nat) (h : Sl N a L Df) (hc : evo L cal = some (.func (.yield lp) #[] #[])) (hvs : args.toList.map (evo L) = vs.map some)
    (hy : Yields P lp vs.toArray w fun v w' => v = V ∧ ∃ g', G g' ∧ St w0 (B.set i g') w') (hd : Nat.blt d N = true) (k : ∀ a' w' g', G g' → Sl N a' ((d, V) :: L) Df → St w0 (B.set i g') w' → Lst P ops Q l a' w') :
    Lst P ops Q (⟨some d, .call { callee := .value cal, args := args, argTypes := tys }, ty, pos, af, none⟩ :: l) a w :=
  s_does (R := fun v w' => v = V ∧ ∃ g', G g' ∧ St w0 (B.set i g') w') h (does_yield (h.ev hc) (evsA h hvs) hy) hd fun a' w' v ⟨h1, g', h2, h3⟩ hs => by subst h1; exact k a' w' g' h2 hs h3
end
/-! the rounds -/
theorem ltD {l : List Lt} {j : Nat} (hj : j < l.length) : ltArr l[j] = ltArr (l.getD j zLt) := by
  rw [List.getD_eq_getElem?_getD, List.getElem?_eq_getElem hj]; rfl
theorem qs_next {q : Nat → Bool} {d : Nat} (h : ∀ j, j < d → q j = false) (hd : q d = false) : ∀ j, j < d + 1 → q j = false := fun j hj => by
  by_cases h1 : j < d
  · exact h j h1
  · obtain rfl : j = d := by omega
    exact hd
def badQ (m : Ml) (d : Nat) : Bool := badL m.last (m.l.getD d zLt)
theorem right_left {m : Ml} {d : Nat} (hd : d < m.l.length) (hb : badQ m d = true) : rightL m = false := by
  rw [← Bool.not_eq_true, right_iff]
  rintro ⟨_, _, _, h⟩
  unfold badQ at hb
  rw [List.getD_eq_getElem?_getD, List.getElem?_eq_getElem hd, Option.getD_some, h _ (List.getElem_mem hd)] at hb
  cases hb
theorem right_done {m : Ml} (h0 : decide (m.l.length ≤ 64) = true) (h1 : tck m.last = true) (h2 : tck m.now = true) (h : ∀ j, j < m.l.length → badQ m j = false) : rightL m = true := by
  rw [right_iff]
  refine ⟨of_decide_eq_true h0, (tck_iff _).1 h1, (tck_iff _).1 h2, fun x hx => ?_⟩
  obtain ⟨j, hj, rfl⟩ := List.mem_iff_getElem.1 hx
  have := h j hj
  unfold badQ at this
  rwa [List.getD_eq_getElem?_getD, List.getElem?_eq_getElem hj] at this
theorem right_no0 {m : Ml} (h0 : decide (m.l.length ≤ 64) = false) : rightL m = false := by unfold rightL; rw [h0]; rfl
theorem right_no1 {m : Ml} (h1 : tck m.last = false) : rightL m = false := by unfold rightL; rw [h1]; cases decide (m.l.length ≤ 64) <;> rfl
theorem right_no2 {m : Ml} (h2 : tck m.now = false) : rightL m = false := by unfold rightL; rw [h2]; cases decide (m.l.length ≤ 64) <;> cases tck m.last <;> rfl
theorem right_all {m : Ml} {k : Nat} (hk : m.l.length ≤ k) (h : ∀ j, j < k → badQ m j = false) : (m.l.all fun x => !badL m.last x) = true := by
  rw [List.all_eq_true]
  intro x hx
  obtain ⟨j, hj, rfl⟩ := List.mem_iff_getElem.1 hx
  have := h j (by omega)
  unfold badQ at this
  rw [List.getD_eq_getElem?_getD, List.getElem?_eq_getElem hj] at this
  simpa using this
/-! a place -/
def isQ (p : Int) (d : Nat) : Bool := decide ((d : Int) = p)
def atJ (l : List Lt) (q : Nat → Bool) : Nat → Lt | 0 => zLt | d + 1 => bif q d then l.getD d zLt else zLt
theorem atJ_now {l : List Lt} {q : Nat → Bool} {d : Nat} (h : ∀ j, j < d → q j = false) : atJ l q d = zLt := by
  cases d with
  | zero => rfl
  | succ d => show (bif q d then _ else _) = _; rw [h d (Nat.lt_succ_self d)]; rfl
theorem atE_bad {m : Ml} (p : Int) (h : rightL m = false) : atE m p = 1 := by unfold atE; rw [h]; rfl
theorem atL_bad {m : Ml} (p : Int) (h : rightL m = false) : atL m p = zLt := by unfold atL; rw [atE_bad p h]; rfl
theorem atE_in {m : Ml} {p : Int} (h : rightL m = true) (h0 : 0 ≤ p) (hp : p < m.l.length) : atE m p = 0 := by
  unfold atE; rw [h, decide_eq_true h0, decide_eq_true hp]; rfl
theorem atL_in {m : Ml} {p : Int} (h : rightL m = true) (h0 : 0 ≤ p) (hp : p < m.l.length) : atL m p = m.l.getD p.toNat zLt := by
  unfold atL; rw [atE_in h h0 hp]; rfl
theorem atE_out {m : Ml} {p : Int} (h : rightL m = true) (h0 : ¬ (0 ≤ p ∧ p < m.l.length)) : atE m p = 6 := by
  unfold atE; rw [h]
  have : (decide (0 ≤ p) && decide (p < (m.l.length : Int))) = false := by rw [← Bool.not_eq_true]; simpa using h0
  rw [this]; rfl
theorem atL_out {m : Ml} {p : Int} (h : rightL m = true) (h0 : ¬ (0 ≤ p ∧ p < m.l.length)) : atL m p = zLt := by
  unfold atL; rw [atE_out h h0]; rfl
theorem at_left {m : Ml} {p : Int} {d : Nat} (h : rightL m = true) (hd : d < m.l.length) (hq : isQ p d = true) : atE m p = 0 ∧ atL m p = m.l.getD d zLt := by
  have := of_decide_eq_true hq
  subst this
  refine ⟨atE_in h (by omega) (by omega), ?_⟩
  rw [atL_in h (by omega) (by omega)]; rfl
theorem at_done {m : Ml} {p : Int} (h : rightL m = true) (hq : ∀ j, j < m.l.length → isQ p j = false) : atE m p = 6 ∧ atL m p = zLt := by
  have h9 : ¬ (0 ≤ p ∧ p < (m.l.length : Int)) := fun ⟨h1, h2⟩ => of_decide_eq_false (hq p.toNat (by omega)) (by omega)
  exact ⟨atE_out h h9, atL_out h h9⟩
theorem at_tri (m : Ml) (p : Int) : (rightL m = false ∧ atE m p = 1) ∨ (rightL m = true ∧ (0 ≤ p ∧ p < m.l.length) ∧ atE m p = 0) ∨ (rightL m = true ∧ ¬ (0 ≤ p ∧ p < m.l.length) ∧ atE m p = 6) := by
  cases h : rightL m with
  | false => exact .inl ⟨rfl, atE_bad p h⟩
  | true =>
    by_cases hp : 0 ≤ p ∧ p < (m.l.length : Int)
    · exact .inr (.inl ⟨rfl, hp, atE_in h hp.1 hp.2⟩)
    · exact .inr (.inr ⟨rfl, hp, atE_out h hp⟩)
/-! without a place -/
def dl (l : List Lt) (k d : Nat) : List Lt := (l.take d).eraseIdx k
theorem dl_skip {l : List Lt} {d : Nat} (hd : d < l.length) : dl l d (d + 1) = dl l d d := by
  unfold dl
  rw [List.take_succ_eq_append_getElem hd, List.eraseIdx_append_of_length_le (by simp; omega), List.length_take, Nat.min_eq_left (by omega), Nat.sub_self]
  rw [List.eraseIdx_of_length_le (l := l.take d) (by simp; omega)]
  simp
theorem dl_keep {l : List Lt} {k d : Nat} (hd : d < l.length) (hk : k ≠ d) : dl l k (d + 1) = dl l k d ++ [l.getD d zLt] := by
  unfold dl
  rw [List.take_succ_eq_append_getElem hd, List.getD_eq_getElem?_getD, List.getElem?_eq_getElem hd, Option.getD_some]
  by_cases h : k < d
  · rw [List.eraseIdx_append_of_lt_length (by simp; omega)]
  · rw [List.eraseIdx_append_of_length_le (by simp; omega), List.length_take, Nat.min_eq_left (by omega), List.eraseIdx_of_length_le (l := l.take d) (by simp; omega)]
    rw [show [l[d]].eraseIdx (k - d) = [l[d]] from List.eraseIdx_of_length_le (by simp; omega)]
theorem dl_end (l : List Lt) (k : Nat) : dl l k l.length = l.eraseIdx k := by unfold dl; rw [List.take_length]
theorem dl_le (l : List Lt) (k d : Nat) : (dl l k d).length ≤ l.length := by
  unfold dl
  have := List.length_eraseIdx_le (l.take d) k
  rw [List.length_take] at this
  omega
/-! few -/
def fwK (l : List Lt) (k : Nat) : List Lt := (l.take k).map cutLt
theorem fwK_succ {l : List Lt} {k : Nat} (hk : k < l.length) : fwK l (k + 1) = fwK l k ++ [cutLt l[k]] := by
  unfold fwK; rw [List.take_succ_eq_append_getElem hk, List.map_append]; rfl
theorem fwK_len {l : List Lt} {k : Nat} (hk : k ≤ l.length) : (fwK l k).length = k := by unfold fwK; simp; omega
end Go.Proofs.Ytbgkoikpdhecfaa
namespace Go.Proofs.Ytbgkoikpdhecfaa
open Go.RowKit
theorem St.resl {w0 w : World} {B : List Own} {v : Value} {e : TypeId} {sz n m : Nat} {xs ys : List Value} (s : St w0 B w) (i : Nat) (hi : B[i]? = some (.sl v e sz n xs)) (hn : n = m) (hx : xs = ys) : St w0 (B.set i (.sl v e sz m ys)) w := by
  subst hn; subst hx
  have : B.set i (.sl v e sz n xs) = B := by
    apply List.ext_getElem?
    intro j
    by_cases h : i = j
    · subst h
      rw [List.getElem?_set_self (List.getElem?_eq_some_iff.1 hi).1, hi]
    · rw [List.getElem?_set_ne h]
  rw [this]; exact s
theorem clone_nil {w : World} {a : Option Addr} {n c : Nat} {l : List Lt} (ha : a.isNone = true) (h : RdZ w (.slice a n c) 4 l.length (ltCells l)) : l = [] := by
  cases a with
  | none => exact lt_nil h
  | some p => cases ha
theorem cells_snoc (l : List Lt) (x : Lt) : ltCells l ++ (ltArr x).toList = ltCells (l ++ [x]) := by rw [ltCells_app, ltCells_one]
theorem one_lt (x : Lt) : ([Value.agg (ltArr x)].flatMap (·.cells.toList)) = (ltArr x).toList := by simp [Value.cells]
theorem one_lt_ones (x : Lt) : ∀ u ∈ ([Value.agg (ltArr x)].flatMap (·.cells.toList)), u.oneCell' = true := by rw [one_lt]; exact ltArr_ones x
theorem one_lt_size (x : Lt) : ∀ v ∈ [Value.agg (ltArr x)], v.cells.size = 4 := fun v hv => by rw [List.mem_singleton] at hv; subst hv; rfl
/-! what the calls come to -/
theorem take_no {m : Ml} {p : Int} (h : atE m p ≠ 0) : takeM m p = zMl := by unfold takeM; rw [decide_eq_false h]; rfl
theorem take_ok {m : Ml} {p : Int} (h : atE m p = 0) : takeM m p = { m with l := m.l.eraseIdx p.toNat } := by unfold takeM; rw [decide_eq_true h]; rfl
theorem atL_no {m : Ml} {p : Int} (h : atE m p ≠ 0) : atL m p = zLt := by unfold atL; rw [decide_eq_false h]; rfl
theorem at_ok {m : Ml} {p : Int} (h : atE m p = 0) : rightL m = true ∧ 0 ≤ p ∧ p < m.l.length := by
  rcases at_tri m p with ⟨_, h2⟩ | ⟨h1, h2, _⟩ | ⟨_, _, h2⟩
  · omega
  · exact ⟨h1, h2⟩
  · omega
theorem twE_no {m : Ml} {p : Int} (h : atE m p ≠ 0) : twE m p = atE m p := by unfold twE; rw [decide_eq_false h]; rfl
theorem twM_no {m : Ml} {p : Int} (h : atE m p ≠ 0) : twM m p = zMl := by unfold twM; rw [twE_no h, decide_eq_false h]; rfl
theorem twE_full {m : Ml} {p : Int} (h : atE m p = 0) (hf : decide (m.l.length = 64) = true) : twE m p = 8 := by unfold twE; rw [decide_eq_true h, hf]; rfl
theorem twM_full {m : Ml} {p : Int} (h : atE m p = 0) (hf : decide (m.l.length = 64) = true) : twM m p = zMl := by unfold twM; rw [twE_full h hf]; rfl
theorem twE_ok {m : Ml} {p : Int} (h : atE m p = 0) (hf : decide (m.l.length = 64) = false) : twE m p = 0 := by unfold twE; rw [decide_eq_true h, hf]; rfl
theorem twM_ok {m : Ml} {p : Int} (h : atE m p = 0) (hf : decide (m.l.length = 64) = false) : twM m p = { m with l := m.l ++ [atL m p] } := by unfold twM; rw [twE_ok h hf]; rfl
theorem lastM_no {m : Ml} {p : Int} (h : atE m p ≠ 0) : lastM m p = zMl := by unfold lastM; rw [decide_eq_false h]; rfl
theorem lastM_ok {m : Ml} {p : Int} (h : atE m p = 0) : lastM m p = { m with l := m.l.eraseIdx p.toNat ++ [atL m p] } := by unfold lastM; rw [decide_eq_true h]; rfl
theorem erase_len {l : List Lt} {k : Nat} (n : Nat) (h : l.length ≤ n) : (l.eraseIdx k).length ≤ n := Nat.le_trans (List.length_eraseIdx_le l k) h
theorem take_len {m : Ml} {n : Nat} (p : Int) (h : m.l.length ≤ n) : (takeM m p).l.length ≤ n := by
  by_cases h0 : atE m p = 0
  · rw [take_ok h0]; exact erase_len n h
  · rw [take_no h0]; exact Nat.zero_le _
theorem postE_1 {m : Ml} {f t : Int} {d : ByteArray} (h : (!rightL m || (!adr f || !adr t)) = true) : postE m f t d = 1 := by unfold postE; rw [h]; rfl
theorem postE_2 {m : Ml} {f t : Int} {d : ByteArray} (h : (!rightL m || (!adr f || !adr t)) = false) (h2 : 300 < d.size) : postE m f t d = 2 := by unfold postE; rw [h, decide_eq_true h2]; rfl
theorem postE_8 {m : Ml} {f t : Int} {d : ByteArray} (h : (!rightL m || (!adr f || !adr t)) = false) (h2 : ¬ 300 < d.size) (h3 : (decide (m.l.length = 64) || decide (m.last = 1099511627776)) = true) : postE m f t d = 8 := by unfold postE; rw [h, decide_eq_false h2, h3]; rfl
theorem postE_0 {m : Ml} {f t : Int} {d : ByteArray} (h : (!rightL m || (!adr f || !adr t)) = false) (h2 : ¬ 300 < d.size) (h3 : (decide (m.l.length = 64) || decide (m.last = 1099511627776)) = false) : postE m f t d = 0 := by unfold postE; rw [h, decide_eq_false h2, h3]; rfl
theorem postM_no {m : Ml} {f t : Int} {d : ByteArray} (h : postE m f t d ≠ 0) : postM m f t d = zMl ∧ postN m f t d = 0 := by unfold postM postN; rw [decide_eq_false h]; exact ⟨rfl, rfl⟩
theorem postM_ok {m : Ml} {f t : Int} {d : ByteArray} (h : postE m f t d = 0) : postM m f t d = ⟨m.l ++ [(m.last + 1, f, t, d)], m.last + 1, m.now⟩ ∧ postN m f t d = m.last + 1 := by unfold postM postN; rw [decide_eq_true h]; exact ⟨rfl, rfl⟩
theorem passE_1 {m : Ml} {t : Int} (h : (!rightL m || decide (t < 0)) = true) : passE m t = 1 := by unfold passE; rw [h]; rfl
theorem passE_0 {m : Ml} {t : Int} (h : (!rightL m || decide (t < 0)) = false) : passE m t = 0 := by unfold passE; rw [h]; rfl
theorem passM_no {m : Ml} {t : Int} (h : passE m t ≠ 0) : passM m t = zMl := by unfold passM; rw [decide_eq_false h]; rfl
theorem passM_ok {m : Ml} {t : Int} (h : passE m t = 0) : passM m t = { m with now := m.now + min t (1099511627776 - m.now) } := by unfold passM; rw [decide_eq_true h]; rfl
end Go.Proofs.Ytbgkoikpdhecfaa
namespace Go.Proofs.Ytbgkoikpdhecfaa
open Go.RowKit
theorem rd_nil4 (w : World) : RdZ w (.slice none 0 0) 4 ([] : List Lt).length (ltCells []) := ⟨rfl, .inl ⟨rfl, rfl⟩⟩
theorem e_row2_tmp {P : Program} {fn : Func} {w w0 : World} {N : Nat} {a : Act} {L : List (Nat × Value)} {B : List Own} {T : Asrt} {p q r t t' : Tmp} {b b' n n' : Nat} {C C' : Array Value} {u u' : TypeId} {V : Value} (i i' : Nat) (hres : fn.results = #[.cell p t, .cell q t', .tmp r]) (h : Sl N a L) (s : St w0 B w) (hr : Row P t n) (hr' : Row P t' n')
    (hp : lk L p = some (.pointer (some ⟨b, 0, none⟩))) (hq : lk L q = some (.pointer (some ⟨b', 0, none⟩))) (hi : B[i]? = some (.blk b (.cells C u))) (hi' : B[i']? = some (.blk b' (.cells C' u'))) (hn : C.size = n) (hn' : C'.size = n') (hv : lk L r = some V) (hT : T (.tuple #[.agg C, .agg C', V]) w) : bodyPost P fn (Ret w0 T) .ret a w := by
  refine ⟨h.defers, .tuple #[.agg C, .agg C', V], ?_, _, rfl, hT, s.ext⟩
  have hp' : a.tmps[p]?.getD undef = .pointer (some ⟨b, 0, none⟩) := by simpa using h.holds p _ hp
  have hq' : a.tmps[q]?.getD undef = .pointer (some ⟨b', 0, none⟩) := by simpa using h.holds q _ hq
  have hr' : a.tmps[r]?.getD undef = V := by simpa using h.holds r _ hv
  simp [results, hres, hp', hq', hr', asAddr, run_load_row hr w b C u (0, 0) (s.get i hi) hn, run_load_row (by assumption) w b' C' u' (0, 0) (s.get i' hi') hn']
def PostP (e : TypeId) (b : Nat) (m : Ml) (f t : Int) (d : ByteArray) : Asrt := fun v w => ∃ vx, v = .tuple #[.agg (mlArr (postM m f t d) vx), .int .i64 (postN m f t d), .int .i64 (postE m f t d)] ∧ Owns w b e 4 vx (postM m f t d).l.length (ltCells (postM m f t d).l)
theorem post_no {e : TypeId} {b : Nat} {w : World} {m : Ml} {f t : Int} {d : ByteArray} {k : Int} (h : postE m f t d = k) (hk : k ≠ 0) : PostP e b m f t d (.tuple #[.agg (mlArr zMl (.slice none 0 0)), .int .i64 0, .int .i64 k]) w := by
  obtain ⟨h1, h2⟩ := postM_no (m := m) (f := f) (t := t) (d := d) (by rw [h]; exact hk)
  exact ⟨.slice none 0 0, by rw [h1, h2, h], by rw [h1]; exact owns_nil _ _ _ _⟩
theorem post_ok {e : TypeId} {b : Nat} {w : World} {m : Ml} {f t : Int} {d : ByteArray} {v : Value} (h : postE m f t d = 0) (hO : Owns w b e 4 v (m.l ++ [(m.last + 1, f, t, d)]).length (ltCells (m.l ++ [(m.last + 1, f, t, d)]))) :
    PostP e b m f t d (.tuple #[.agg (mlArr ⟨m.l ++ [(m.last + 1, f, t, d)], m.last + 1, m.now⟩ v), .int .i64 (m.last + 1), .int .i64 0]) w := by
  obtain ⟨h1, h2⟩ := postM_ok h
  exact ⟨v, by rw [h1, h2, h], by rw [h1]; exact hO⟩
def PassP (e : TypeId) (b : Nat) (m : Ml) (t : Int) : Asrt := fun v w => ∃ vx, v = .tuple #[.agg (mlArr (passM m t) vx), .int .i64 (passE m t)] ∧ Owns w b e 4 vx (passM m t).l.length (ltCells (passM m t).l)
theorem pass_no {e : TypeId} {b : Nat} {w : World} {m : Ml} {t : Int} (h : passE m t = 1) : PassP e b m t (.tuple #[.agg (mlArr zMl (.slice none 0 0)), .int .i64 1]) w := by
  have h1 := passM_no (m := m) (t := t) (by omega)
  exact ⟨.slice none 0 0, by rw [h1, h], by rw [h1]; exact owns_nil _ _ _ _⟩
theorem pass_ok {e : TypeId} {b : Nat} {w : World} {m : Ml} {t : Int} {v : Value} (h : passE m t = 0) (hO : Owns w b e 4 v m.l.length (ltCells m.l)) : PassP e b m t (.tuple #[.agg (mlArr { m with now := m.now + min t (1099511627776 - m.now) } v), .int .i64 0]) w := by
  have h1 := passM_ok h
  exact ⟨v, by rw [h1, h], by rw [h1]; exact hO⟩
def TakeP (e : TypeId) (b : Nat) (m : Ml) (p : Int) : Asrt := fun v w => ∃ vx, v = .tuple #[.agg (mlArr (takeM m p) vx), .agg (ltArr (atL m p)), .int .i64 (atE m p)] ∧ Owns w b e 4 vx (takeM m p).l.length (ltCells (takeM m p).l)
theorem take_fno {e : TypeId} {b : Nat} {w : World} {m : Ml} {p : Int} (h : atE m p ≠ 0) : TakeP e b m p (.tuple #[.agg (mlArr zMl (.slice none 0 0)), .agg (ltArr zLt), .int .i64 (atE m p)]) w :=
  ⟨.slice none 0 0, by rw [take_no h, atL_no h], by rw [take_no h]; exact owns_nil _ _ _ _⟩
theorem take_fok {e : TypeId} {b : Nat} {w : World} {m : Ml} {p : Int} {v : Value} (h : atE m p = 0) (hO : Owns w b e 4 v (m.l.eraseIdx p.toNat).length (ltCells (m.l.eraseIdx p.toNat))) : TakeP e b m p (.tuple #[.agg (mlArr { m with l := m.l.eraseIdx p.toNat } v), .agg (ltArr (atL m p)), .int .i64 0]) w :=
  ⟨v, by rw [take_ok h, h], by rw [take_ok h]; exact hO⟩
/-- a mail and an error -/
def MailP (e : TypeId) (b : Nat) (m : Ml) (k : Int) : Asrt := fun v w => ∃ vx, v = .tuple #[.agg (mlArr m vx), .int .i64 k] ∧ Owns w b e 4 vx m.l.length (ltCells m.l)
theorem mail_no {e : TypeId} {b : Nat} {w : World} {m : Ml} {k q : Int} (h : m = zMl) (hk : k = q) : MailP e b m k (.tuple #[.agg (mlArr zMl (.slice none 0 0)), .int .i64 q]) w := by
  subst h; subst hk
  exact ⟨.slice none 0 0, rfl, owns_nil _ _ _ _⟩
theorem mail_ok {e : TypeId} {b : Nat} {w : World} {m n : Ml} {k q : Int} {v : Value} (h : m = n) (hk : k = q) (hO : Owns w b e 4 v n.l.length (ltCells n.l)) : MailP e b m k (.tuple #[.agg (mlArr n v), .int .i64 q]) w := by
  subst h; subst hk
  exact ⟨v, rfl, hO⟩
def OneP (e : TypeId) (b : Nat) (m : Ml) : Asrt := fun v w => ∃ vx, v = .agg (mlArr m vx) ∧ Owns w b e 4 vx m.l.length (ltCells m.l)
theorem OneP.mono (e : TypeId) (b : Nat) (m : Ml) : Mono (OneP e b m) := fun _ _ _ ⟨vx, h1, h2⟩ hE => ⟨vx, h1, ownsM _ _ _ _ _ vx _ _ h2 hE⟩
theorem OneP.low {e : TypeId} {b c : Nat} {m : Ml} {v : Value} {w : World} (h : OneP e c m v w) (hb : b ≤ c) : OneP e b m v w := by
  obtain ⟨vx, h1, h2⟩ := h
  exact ⟨vx, h1, h2.low hb⟩
theorem last_take {m : Ml} {p : Int} (h : atE m p = 0) : lastM m p = { takeM m p with l := (takeM m p).l ++ [atL m p] } := by rw [lastM_ok h, take_ok h]
/-! the laws' own -/
theorem like_no0 {a b : Ml} (h : decide (a.l.length = b.l.length) = false) : mlLike a b = false := by
  rw [← Bool.not_eq_true, like_iff]; rintro rfl; simp at h
theorem like_no1 {a b : Ml} (h : decide (a.last = b.last) = false) : mlLike a b = false := by
  rw [← Bool.not_eq_true, like_iff]; rintro rfl; simp at h
theorem like_no2 {a b : Ml} (h : decide (a.now = b.now) = false) : mlLike a b = false := by
  rw [← Bool.not_eq_true, like_iff]; rintro rfl; simp at h
theorem like_noL {a b : Ml} {k : Nat} (h1 : k < a.l.length) (h2 : k < b.l.length) (h : a.l[k] ≠ b.l[k]) : mlLike a b = false := by
  rw [← Bool.not_eq_true, like_iff]; rintro rfl; exact h rfl
theorem like_yes {a b : Ml} (h0 : decide (a.l.length = b.l.length) = true) (h1 : decide (a.last = b.last) = true) (h2 : decide (a.now = b.now) = true) (h : ∀ j, j < a.l.length → a.l.getD j zLt = b.l.getD j zLt) : mlLike a b = true := by
  have h0 := of_decide_eq_true h0
  rw [like_iff]
  have hl : a.l = b.l := by
    apply List.ext_getElem h0
    intro i hi hj
    have := h i hi
    rwa [List.getD_eq_getElem?_getD, List.getD_eq_getElem?_getD, List.getElem?_eq_getElem hi, List.getElem?_eq_getElem hj] at this
  cases a; cases b
  simp only [Ml.mk.injEq]
  exact ⟨hl, of_decide_eq_true h1, of_decide_eq_true h2⟩
end Go.Proofs.Ytbgkoikpdhecfaa
namespace Go.Proofs.Ytbgkoikpdhecfaa
open Go.RowKit
theorem few_ls (m : Ml) : fewM m = { m with l := (m.l.take (min m.l.length 66)).map cutLt } := by
  unfold fewM
  by_cases h : m.l.length ≤ 66
  · rw [Nat.min_eq_left h, List.take_length, List.take_of_length_le h]
  · rw [Nat.min_eq_right (by omega)]
theorem few_end {m : Ml} {ls : List Lt} (h : ls = m.l.take (min m.l.length 66)) : fwK ls ls.length = (fewM m).l := by
  rw [few_ls, ← h]; unfold fwK; rw [List.take_length]
theorem adr_b (n : Int) (h : decide (n < 0) = true) : adr n = false := by
  have := of_decide_eq_true h; unfold adr; rw [decide_eq_false (by omega)]; rfl
theorem adr_c (n : Int) (h : decide (31 < n) = true) : adr n = false := by
  have := of_decide_eq_true h; unfold adr; rw [decide_eq_false (p := n < 32) (by omega)]; cases decide (0 ≤ n) <;> rfl
theorem adr_y (n : Int) (h : decide (n < 0) = false) (h2 : decide (31 < n) = false) : adr n = true := by
  have h3 := of_decide_eq_false h; have h4 := of_decide_eq_false h2
  unfold adr; rw [decide_eq_true (by omega), decide_eq_true (by omega)]; rfl
def zA : Ml := postM zMl 1 17 ⟨#[120]⟩
theorem alive0 : postE zMl 1 17 ⟨#[120]⟩ = 0 := by decide
theorem aliveN : postN zMl 1 17 ⟨#[120]⟩ = 1 := by decide
theorem aliveL : zA.l.length ≤ 1000 := by decide
theorem alive1 : atE zA 0 = 0 := by decide
theorem alive2 : atL zA 0 = (1, 1, 17, ⟨#[120]⟩) := by decide
end Go.Proofs.Ytbgkoikpdhecfaa
namespace Go.Proofs.Ytbgkoikpdhecfaa
theorem eqs_next {l r : List Lt} {k : Nat} (h : ∀ j, j < k → l.getD j zLt = r.getD j zLt) (h1 : k < l.length) (h2 : k < r.length) (he : l[k] = r[k]) : ∀ j, j < k + 1 → l.getD j zLt = r.getD j zLt := fun j hj => by
  by_cases h3 : j < k
  · exact h j h3
  · obtain rfl : j = k := by omega
    rw [List.getD_eq_getElem?_getD, List.getD_eq_getElem?_getD, List.getElem?_eq_getElem h1, List.getElem?_eq_getElem h2, Option.getD_some, Option.getD_some, he]
end Go.Proofs.Ytbgkoikpdhecfaa
namespace Go.Proofs.Ytbgkoikpdhecfaa
theorem cut_set (x : Lt) : (ltArr x).setIfInBounds 3 (.string (x.2.2.2.extract 0 (min x.2.2.2.size 305))) = ltArr (cutLt x) := rfl
end Go.Proofs.Ytbgkoikpdhecfaa
namespace Go.Proofs.Ytbgkoikpdhecfaa
open Go.RowKit
theorem post_len {m : Ml} {f t : Int} {d : ByteArray} (h : m.l.length ≤ 66) : (postM m f t d).l.length ≤ 67 := by
  by_cases h0 : postE m f t d = 0
  · rw [(postM_ok h0).1]; show (m.l ++ [_]).length ≤ 67; rw [List.length_append]; show _ + 1 ≤ 67; omega
  · rw [(postM_no h0).1]; exact Nat.zero_le _
theorem pass_len {m : Ml} {t : Int} (h : m.l.length ≤ 66) : (passM m t).l.length ≤ 67 := by
  by_cases h0 : passE m t = 0
  · rw [passM_ok h0]; show m.l.length ≤ 67; omega
  · rw [passM_no h0]; exact Nat.zero_le _
theorem tw_len {m : Ml} {p : Int} (h : m.l.length ≤ 66) : (twM m p).l.length ≤ 67 := by
  by_cases h0 : atE m p = 0
  · cases hf : decide (m.l.length = 64) with
    | true => rw [twM_full h0 hf]; exact Nat.zero_le _
    | false => rw [twM_ok h0 hf]; show (m.l ++ [_]).length ≤ 67; rw [List.length_append]; show _ + 1 ≤ 67; omega
  · rw [twM_no h0]; exact Nat.zero_le _
theorem last_len {m : Ml} {p : Int} {n : Nat} (h : m.l.length ≤ n) : (lastM m p).l.length ≤ n + 1 := by
  by_cases h0 : atE m p = 0
  · rw [lastM_ok h0]; show (m.l.eraseIdx p.toNat ++ [_]).length ≤ n + 1
    have := erase_len (k := p.toNat) n h
    rw [List.length_append]; show _ + 1 ≤ _; omega
  · rw [lastM_no h0]; exact Nat.zero_le _
theorem ptr_join3 {w0 w1 w : World} {B : List Own} (s : St w0 B w1) (hE : Ext w1 w) {v u x : Value} {C D E : Array Value} {t t' t'' : TypeId} (hT : PtrT C t v w) (hk : ∀ k ∈ vks v, w1.heap.size ≤ k) (hU : PtrT D t' u w) (hk' : ∀ k ∈ vks u, w1.heap.size ≤ k) (hX : PtrT E t'' x w) (hk'' : ∀ k ∈ vks x, w1.heap.size ≤ k)
    (hd : ∀ k ∈ vks v, k ∉ vks u) (hd2 : ∀ k ∈ vks v, k ∉ vks x) (hd3 : ∀ k ∈ vks u, k ∉ vks x) : ∃ b b' b'', v = .pointer (some ⟨b, 0, none⟩) ∧ u = .pointer (some ⟨b', 0, none⟩) ∧ x = .pointer (some ⟨b'', 0, none⟩) ∧ St w0 (.blk b (.cells C t) :: .blk b' (.cells D t') :: .blk b'' (.cells E t'') :: B) w := by
  obtain ⟨b, rfl, h1⟩ := hT
  obtain ⟨b', rfl, h2⟩ := hU
  obtain ⟨b'', rfl, h3⟩ := hX
  refine ⟨b, b', b'', rfl, rfl, rfl, s.join hE [.blk b (.cells C t), .blk b' (.cells D t'), .blk b'' (.cells E t'')] ?_ ?_ ?_⟩
  · intro p hp
    simp only [List.mem_cons, List.not_mem_nil, or_false] at hp
    rcases hp with rfl | rfl | rfl
    · exact h1
    · exact h2
    · exact h3
  · intro p hp k hk9
    simp only [List.mem_cons, List.not_mem_nil, or_false] at hp
    rcases hp with rfl | rfl | rfl <;> rw [Own.at_blk] at hk9 <;> subst hk9
    · exact hk _ (by simp [vks])
    · exact hk' _ (by simp [vks])
    · exact hk'' _ (by simp [vks])
  · have e1 : b ≠ b' := fun e => hd b (by simp [vks]) (by simp [vks, e])
    have e2 : b ≠ b'' := fun e => hd2 b (by simp [vks]) (by simp [vks, e])
    have e3 : b' ≠ b'' := fun e => hd3 b' (by simp [vks]) (by simp [vks, e])
    simp only [List.pairwise_cons, List.mem_cons, List.not_mem_nil, or_false, forall_eq_or_imp, forall_eq, Own.at_blk, List.Pairwise.nil, and_true, false_implies, implies_true]
    exact ⟨⟨fun h => e1 h, fun h => e2 h⟩, fun h => e3 h⟩
end Go.Proofs.Ytbgkoikpdhecfaa

namespace Go.Proofs.Ytbgkoikpdhecfaa
open Go.RowKit
/-! ### letters that are put last, one behind the other -/
def rotL (l : List Lt) (k : Nat) : List Lt := l.drop k ++ l.take k
def gl (l : List Lt) : Nat → List Lt | 0 => [] | k + 1 => rotL l (k + 1)
def vsel (a b : Value) : Nat → Value | 0 => a | _ + 1 => b
theorem rotL_zero (l : List Lt) : rotL l 0 = l := by unfold rotL; simp
theorem rotL_end (l : List Lt) : rotL l l.length = l := by unfold rotL; simp
theorem rotL_len {l : List Lt} {k : Nat} (h : k ≤ l.length) : (rotL l k).length = l.length := by unfold rotL; simp; omega
theorem rotL_next {l : List Lt} {k : Nat} (h : k < l.length) : (rotL l k).eraseIdx 0 ++ [(rotL l k).getD 0 zLt] = rotL l (k + 1) := by
  unfold rotL
  rw [List.drop_eq_getElem_cons h, List.take_succ_eq_append_getElem h]
  show (l.drop (k + 1) ++ l.take k) ++ [l[k]] = _
  rw [List.append_assoc]
theorem rd_sel {w : World} {a b : Value} {l : List Lt} {k : Nat} (ha : RdZ w a 4 l.length (ltCells l)) (hb : RdZ w b 4 (gl l k).length (ltCells (gl l k))) : RdZ w (vsel a b k) 4 (rotL l k).length (ltCells (rotL l k)) := by
  cases k with
  | zero => rw [rotL_zero]; exact ha
  | succ k => exact hb
theorem right_perm {m : Ml} {l : List Lt} (h : l.Perm m.l) (hr : rightL m = true) : rightL { m with l := l } = true := by
  rw [right_iff] at hr ⊢
  obtain ⟨h1, h2, h3, h4⟩ := hr
  exact ⟨by show l.length ≤ 64; rw [h.length_eq]; exact h1, h2, h3, fun x hx => h4 x (h.mem_iff.1 hx)⟩
theorem rotL_perm (l : List Lt) (k : Nat) : (rotL l k).Perm l := by
  unfold rotL
  exact (List.perm_append_comm).trans (by rw [List.take_append_drop])
theorem rot_last {m : Ml} {k : Nat} (h : k < m.l.length) (hr : rightL m = true) : atE { m with l := rotL m.l k } 0 = 0 ∧ lastM { m with l := rotL m.l k } 0 = { m with l := rotL m.l (k + 1) } := by
  have hr' := right_perm (rotL_perm m.l k) hr
  have hl := rotL_len (Nat.le_of_lt h)
  have h0 := atE_in (m := { m with l := rotL m.l k }) (p := 0) hr' (by omega) (by show (0 : Int) < ((rotL m.l k).length : Int); omega)
  have h1 := atL_in (m := { m with l := rotL m.l k }) (p := 0) hr' (by omega) (by show (0 : Int) < ((rotL m.l k).length : Int); omega)
  refine ⟨h0, ?_⟩
  rw [lastM_ok h0, h1]
  exact congrArg (fun x => Ml.mk x m.last m.now) (rotL_next h)
theorem tmod_k (k : Int) : -1000 < k.tmod 1000 ∧ k.tmod 1000 < 1000 := by
  refine ⟨?_, Int.tmod_lt_of_pos k (by decide)⟩
  have := Int.lt_tmod_of_pos k (b := 1000) (by decide)
  omega
theorem tmod_p {k : Int} (h : 0 ≤ k) : 0 ≤ k.tmod 1000 ∧ k.tmod 1000 < 1000 := ⟨Int.tmod_nonneg _ h, Int.tmod_lt_of_pos k (by decide)⟩
theorem post_8 {m : Ml} {d : ByteArray} (hr : rightL m = true) (hd : d.size ≤ 300) (h : postE m 0 31 d ≠ 0) : postE m 0 31 d = 8 := by
  have hb : (!rightL m || (!adr 0 || !adr 31)) = false := by rw [hr]; rfl
  cases h3 : (decide (m.l.length = 64) || decide (m.last = 1099511627776)) with
  | true => exact postE_8 hb (by omega) h3
  | false => exact absurd (postE_0 hb (by omega) h3) h
theorem post_in {m : Ml} {f t : Int} {d : ByteArray} (h : postE m f t d = 0) : (rightL m = true ∧ adr f = true ∧ adr t = true) ∧ d.size ≤ 300 ∧ m.l.length ≠ 64 ∧ m.last ≠ 1099511627776 := by
  cases h1 : (!rightL m || (!adr f || !adr t)) with
  | true => rw [postE_1 h1] at h; exact absurd h (by decide)
  | false =>
    by_cases h2 : 300 < d.size
    · rw [postE_2 h1 h2] at h; exact absurd h (by decide)
    · cases h3 : (decide (m.l.length = 64) || decide (m.last = 1099511627776)) with
      | true => rw [postE_8 h1 h2 h3] at h; exact absurd h (by decide)
      | false =>
        simp at h1 h3
        exact ⟨h1, by omega, h3.1, h3.2⟩
theorem right_post {m : Ml} {f t : Int} {d : ByteArray} (h : postE m f t d = 0) : rightL ⟨m.l ++ [(m.last + 1, f, t, d)], m.last + 1, m.now⟩ = true := by
  obtain ⟨⟨h1, h2, h3⟩, h4, h5, h6⟩ := post_in h
  rw [right_iff] at h1 ⊢
  rw [adr_iff] at h2 h3
  obtain ⟨g1, g2, g3, g4⟩ := h1
  refine ⟨by show (m.l ++ [_]).length ≤ 64; rw [List.length_append]; show _ + 1 ≤ 64; omega, ⟨by show 0 ≤ m.last + 1; omega, by show m.last + 1 ≤ _; omega⟩, g3, fun x hx => ?_⟩
  rcases List.mem_append.1 hx with hx | hx
  · have := (bad_iff _ _).1 (g4 x hx)
    rw [bad_iff]
    exact ⟨this.1, by show x.1 ≤ m.last + 1; omega, this.2.2⟩
  · rw [List.mem_singleton] at hx
    subst hx
    rw [bad_iff]
    exact ⟨by show 1 ≤ m.last + 1; omega, Int.le_refl _, h2, h3, h4⟩
theorem post_take {m : Ml} {f t : Int} {d : ByteArray} (h : postE m f t d = 0) : atE (postM m f t d) (m.l.length : Int) = 0 ∧ atL (postM m f t d) (m.l.length : Int) = (m.last + 1, f, t, d) ∧ (takeM (postM m f t d) (m.l.length : Int)).l.length = m.l.length := by
  have hr := right_post h
  rw [(postM_ok h).1]
  have hl : ((m.l.length : Nat) : Int) < (((⟨m.l ++ [(m.last + 1, f, t, d)], m.last + 1, m.now⟩ : Ml).l.length : Nat) : Int) := by
    show _ < (((m.l ++ [_]).length : Nat) : Int); rw [List.length_append]; show _ < ((_ + 1 : Nat) : Int); omega
  have h0 := atE_in hr (by omega) hl
  refine ⟨h0, ?_, ?_⟩
  · rw [atL_in hr (by omega) hl]
    show (m.l ++ [_]).getD ((m.l.length : Int)).toNat zLt = _
    rw [Int.toNat_natCast, List.getD_eq_getElem?_getD, List.getElem?_append_right (Nat.le_refl _)]
    simp
  · rw [take_ok h0]
    show ((m.l ++ [_]).eraseIdx ((m.l.length : Int)).toNat).length = _
    rw [Int.toNat_natCast, List.length_eraseIdx_of_lt (by rw [List.length_append]; show _ < _ + 1; omega), List.length_append]
    show _ + 1 - 1 = _; omega
end Go.Proofs.Ytbgkoikpdhecfaa

namespace Go.Proofs.Ytbgkoikpdhecfaa
open Go.RowKit Go.ChangeShapes Go.WideShapes Go.ChangeAt
/-! ### mails that come in -/
theorem take_ones4 {cs : List Value} {a b c d : Value} (hl : cs.length = 4) (h0 : (cs.drop 0).take 1 = [a]) (h1 : (cs.drop 1).take 1 = [b]) (h2 : (cs.drop 2).take 1 = [c]) (h3 : (cs.drop 3).take 1 = [d]) : cs = [a, b, c, d] := by
  match cs, hl with
  | [x, y, z, u], _ => simp at h0 h1 h2 h3; subst h0; subst h1; subst h2; subst h3; rfl
theorem take_ones3 {cs : List Value} {a b c : Value} (hl : cs.length = 3) (h0 : (cs.drop 0).take 1 = [a]) (h1 : (cs.drop 1).take 1 = [b]) (h2 : (cs.drop 2).take 1 = [c]) : cs = [a, b, c] := by
  match cs, hl with
  | [x, y, z], _ => simp at h0 h1 h2; subst h0; subst h1; subst h2; rfl
theorem open_ltL {H : Type} {enc : TypeId × Value → H} {P : Program} {w : World} {base : Nat} {spare : Nat → Bool} {held : Bool} {t tn tz : TypeId} {f0 f1 f2 f3 : Field} {fuel : Nat} {cs : List Value} {x : DataW H × List MemPlace} (hn : P.underlying tn = some (.int .i64)) (hcn : P.cellsOf tn = 1) (hz : P.underlying tz = some .string) (hcz : P.cellsOf tz = 1)
    (ht : P.underlying t = some (.struct #[f0, f1, f2, f3])) (h0 : f0.type = tn) (h1 : f1.type = tn) (h2 : f2.type = tn) (h3 : f3.type = tz) (o0 : f0.offset = 0) (o1 : f1.offset = 1) (o2 : f2.offset = 2) (o3 : f3.offset = 3) (hct : P.cellsOf t = 4) (h : DataW.trod enc P w base spare held fuel t cs = some x) : ∃ l : Lt, cs = (ltArr l).toList := by
  obtain ⟨xs, n, rfl, _, hl, hxl, hel⟩ := DataW.trod_struct ht h
  rw [hct] at hl
  have hx4 : xs.length = 4 := by simpa using hxl
  have e0 := hel 0 f0 rfl
  have e1 := hel 1 f1 rfl
  have e2 := hel 2 f2 rfl
  have e3 := hel 3 f3 rfl
  rw [h0, o0, hcn, List.getElem?_eq_getElem (by omega)] at e0
  rw [h1, o1, hcn, List.getElem?_eq_getElem (by omega)] at e1
  rw [h2, o2, hcn, List.getElem?_eq_getElem (by omega)] at e2
  rw [h3, o3, hcz, List.getElem?_eq_getElem (by omega)] at e3
  obtain ⟨a, ha, _⟩ := DataW.trod_int hn e0
  obtain ⟨b, hb, _⟩ := DataW.trod_int hn e1
  obtain ⟨c, hc, _⟩ := DataW.trod_int hn e2
  obtain ⟨d, hd, _⟩ := DataW.trod_string hz e3
  exact ⟨(a, b, c, d), take_ones4 hl ha hb hc hd⟩
theorem open_ltsL {H : Type} {enc : TypeId × Value → H} {P : Program} {W : World} {ts t tn tz : TypeId} {f0 f1 f2 f3 : Field} {fuel : Nat} {cs : List Value} {x : DataW H × List MemPlace} (hn : P.underlying tn = some (.int .i64)) (hcn : P.cellsOf tn = 1) (hz : P.underlying tz = some .string) (hcz : P.cellsOf tz = 1) (hts : P.underlying ts = some (.slice t))
    (ht : P.underlying t = some (.struct #[f0, f1, f2, f3])) (h0 : f0.type = tn) (h1 : f1.type = tn) (h2 : f2.type = tn) (h3 : f3.type = tz) (o0 : f0.offset = 0) (o1 : f1.offset = 1) (o2 : f2.offset = 2) (o3 : f3.offset = 3) (hct : P.cellsOf t = 4)
    (hf : DataW.trod enc P W 0 (fun _ => true) true fuel ts cs = some x) : ∃ (v : Value) (ls : List Lt), cs = [v] ∧ RdZ W v 4 ls.length (ltCells ls) := by
  rcases Go.Deep.open_slice hts hf with ⟨hcs, _⟩ | ⟨a', len, cap, m, k, D, Pl, hcs, _, hl, _, hm, _, hel⟩
  · exact ⟨_, [], hcs, rfl, .inl ⟨rfl, rfl⟩⟩
  · have hml : len ≤ m := by rw [hm]; split <;> omega
    have each : ∀ i, ∃ l : Lt, i < len → Has W (a'.add (i * 4)) (ltArr l) := fun i => by
      by_cases hi : i < len
      · obtain ⟨cs', hc1, hc2⟩ := hel i (by omega)
        obtain ⟨l, rfl⟩ := open_ltL hn hcn hz hcz ht h0 h1 h2 h3 o0 o1 o2 o3 hct hc2
        refine ⟨l, fun _ j u hj => ?_⟩
        rw [hct] at hc1
        obtain ⟨_, hlen, hall⟩ := World.cells?_some hc1
        have hj4 : j < 4 := by have := (Array.getElem?_eq_some_iff.1 hj).1; rw [ltArr_size] at this; exact this
        have := hall j hj4
        rw [this, Array.getElem?_toList]; exact hj
      · exact ⟨zLt, fun h9 => absurd h9 hi⟩
    obtain ⟨L, hL⟩ := Classical.axiomOfChoice each
    refine ⟨_, (List.range len).map L, hcs, ?_, .inr ⟨a', cap, by simp, by simpa using hl, ?_⟩⟩
    · rw [ltCells_len]
    · refine has_flat _ 4 (by decide) lt4 _ fun i hi => ?_
      have hi' : i < len := by simpa using hi
      have := hL i hi'
      simpa using this
theorem open_mail {H : Type} {enc : TypeId × Value → H} {P : Program} {W : World} {r : Reach} {b0 : Nat} {tm ts t tn tz : TypeId} {g0 g1 g2 f0 f1 f2 f3 : Field} {v : Value} {d : DataW H} {ps : List MemPlace} (hn : P.underlying tn = some (.int .i64)) (hcn : P.cellsOf tn = 1) (hz : P.underlying tz = some .string) (hcz : P.cellsOf tz = 1) (hcs : P.cellsOf ts = 1) (hts : P.underlying ts = some (.slice t))
    (ht : P.underlying t = some (.struct #[f0, f1, f2, f3])) (h0 : f0.type = tn) (h1 : f1.type = tn) (h2 : f2.type = tn) (h3 : f3.type = tz) (o0 : f0.offset = 0) (o1 : f1.offset = 1) (o2 : f2.offset = 2) (o3 : f3.offset = 3) (hct : P.cellsOf t = 4)
    (htm : P.underlying tm = some (.struct #[g0, g1, g2])) (ht0 : g0.type = ts) (ht1 : g1.type = tn) (ht2 : g2.type = tn) (ho0 : g0.offset = 0) (ho1 : g1.offset = 1) (ho2 : g2.offset = 2) (hctm : P.cellsOf tm = 3)
    (hval : Value.okWide P W r b0 tm v) (h : DataW.Trod enc P W 0 (fun _ => true) true tm v d ps) : ∃ (m : Ml) (u : Value), v = .agg (mlArr m u) ∧ RdZ W u 4 m.l.length (ltCells m.l) := by
  have hv : ∃ cs, v = .agg cs := by
    unfold Value.okWide at hval
    simp only [htm] at hval
    obtain ⟨cs, h9, _⟩ := hval
    exact ⟨cs, h9⟩
  obtain ⟨cs, rfl⟩ := hv
  obtain ⟨fuel, hf⟩ := h
  obtain ⟨xs, n, hcells, _, hl, hxl, hel⟩ := DataW.trod_struct htm hf
  have hcl : cs.toList.length = 3 := by rw [← hctm]; simpa [Value.cells] using hl
  have hx3 : xs.length = 3 := by simpa using hxl
  have e0 := hel 0 g0 rfl
  have e1 := hel 1 g1 rfl
  have e2 := hel 2 g2 rfl
  rw [ht0, ho0, hcs, List.getElem?_eq_getElem (by omega)] at e0
  rw [ht1, ho1, hcn, List.getElem?_eq_getElem (by omega)] at e1
  rw [ht2, ho2, hcn, List.getElem?_eq_getElem (by omega)] at e2
  obtain ⟨u, ls, hu, hls⟩ := open_ltsL hn hcn hz hcz hts ht h0 h1 h2 h3 o0 o1 o2 o3 hct e0
  obtain ⟨a, ha, _⟩ := DataW.trod_int hn e1
  obtain ⟨b, hb, _⟩ := DataW.trod_int hn e2
  refine ⟨⟨ls, a, b⟩, u, ?_, hls⟩
  simp only [Value.cells] at hu ha hb
  have key : cs.toList = (mlArr ⟨ls, a, b⟩ u).toList := take_ones3 hcl hu ha hb
  rw [Array.toList_inj.1 key]
end Go.Proofs.Ytbgkoikpdhecfaa
