/- Overlays: rows of nodes, each with its rows: which may be, which are stable, what tending, coming, leaving and failing make of them, that what may be stays such; overlays that come in; no Go in it. -/
import Derived.Test.YthjkhnhiciamaaaNd
set_option linter.unusedVariables false
set_option linter.unusedSimpArgs false
set_option linter.unusedSectionVars false
namespace Go.Proofs.Ythjkhnhiciamaaa
open Go.RowKit
/-! ### overlays: a row of nodes, each with its rows -/
theorem nd_ext {a b : Nd} (h1 : a.me = b.me) (h2 : a.pr = b.pr) (h3 : a.sc = b.sc) (h4 : a.fg = b.fg) : a = b := by cases a; cases b; simp_all
instance : DecidableEq Nd := fun a b =>
  if h : a.me = b.me ∧ a.pr = b.pr ∧ a.sc = b.sc ∧ a.fg = b.fg then .isTrue (nd_ext h.1 h.2.1 h.2.2.1 h.2.2.2) else .isFalse fun e => h (by subst e; exact ⟨rfl, rfl, rfl, rfl⟩)
/-- readable, with all rows -/
def RdO (w : World) (v : Value) (L : List N3) : Prop := RdZ w v 68 L.length (n3Cells L) ∧ ∀ x ∈ L, RdN w x
theorem RdN.keep {w w' : World} {x : N3} (h : RdN w x) (e : Ext w w') : RdN w' x := ⟨h.1.keep e, h.2.keep e⟩
theorem RdO.keep {w w' : World} {v : Value} {L : List N3} (h : RdO w v L) (e : Ext w w') : RdO w' v L := ⟨h.1.keep e, fun x hx => (h.2 x hx).keep e⟩
abbrev nds (L : List N3) : List Nd := L.map (·.1)
theorem n3Cells_len (L : List N3) : (n3Cells L).length = L.length * 68 := cells_len _ 68 n3L_len L
theorem RdN.ones {w : World} {x : N3} (h : RdN w x) : x.2.1.oneCell' = true ∧ x.2.2.oneCell' = true := ⟨rd_one h.1, rd_one h.2⟩
theorem n3_cut {w : World} {v : Value} {L : List N3} (h : RdZ w v 68 L.length (n3Cells L)) (k : Nat) (hk : k ≤ L.length) : RdZ w (cutV v k) 68 (L.take k).length (n3Cells (L.take k)) := by
  have := h.cut k hk
  unfold n3Cells at this
  rw [cells_take _ 68 n3L_len] at this
  rw [List.length_take, Nat.min_eq_left hk]
  exact this
theorem RdO.take {w : World} {v : Value} {L : List N3} (h : RdO w v L) (k : Nat) (hk : k ≤ L.length) : RdO w (cutV v k) (L.take k) := ⟨n3_cut h.1 k hk, fun x hx => h.2 x (List.mem_of_mem_take hx)⟩
theorem rd_nilO (w : World) : RdO w nilV [] := ⟨⟨rfl, .inl ⟨rfl, rfl⟩⟩, fun _ h => by cases h⟩
/-! several pieces of own memory as one, known by what can be read of them -/
theorem St.weak {w0 w : World} {ks : List Nat} {S S' : World → Prop} {B : List Own} (s : St w0 (.grp ks S :: B) w) (h : ∀ w', S w' → S' w') : St w0 (.grp ks S' :: B) w := by
  refine ⟨s.ext, fun p hp => ?_, fun p hp k hk => ?_, ?_⟩
  · rcases List.mem_cons.1 hp with rfl | hp
    · have h0 := s.has _ List.mem_cons_self
      exact ⟨h0.1, fun w' hw => h w' (h0.2 w' hw)⟩
    · exact s.has p (List.mem_cons_of_mem _ hp)
  · rcases List.mem_cons.1 hp with rfl | hp
    · exact s.own _ List.mem_cons_self k hk
    · exact s.own p (List.mem_cons_of_mem _ hp) k hk
  · have hpw := List.pairwise_cons.1 s.nd
    exact List.pairwise_cons.2 ⟨fun q hq k hk => hpw.1 q hq k hk, hpw.2⟩
theorem St.getG {w0 w : World} {ks : List Nat} {S : World → Prop} {B : List Own} (s : St w0 B w) (i : Nat) (hi : B[i]? = some (.grp ks S)) : S w := (s.has _ (List.mem_of_getElem? hi)).2 w fun _ _ => rfl
/-- a new overlay: what can be read of it wherever what it was made of can be read -/
def OvP (w : World) (R : World → Prop) (E : List Nd) : Asrt := fun v w' => ∃ vo L ks, v = .agg #[vo] ∧ nds L = E ∧ St w [.grp ks fun w9 => R w9 → RdO w9 vo L] w'
abbrev RwL (L : List N3) : World → Prop := fun w9 => ∀ x ∈ L, RdN w9 x
theorem ovP_nil {w w' : World} {B : List Own} {R : World → Prop} (s : St w B w') : OvP w R [] (.agg #[nilV]) w' := by
  refine ⟨nilV, [], _, rfl, rfl, (St.group (A := []) (B := []) (s.pick [] (List.nil_sublist _))).weak fun w9 _ _ => rd_nilO w9⟩
/-! ### the functions of the reference, by lists -/
abbrev memL (L : List N3) : List Mb := L.map (·.1.me)
def knownN (n : Nd) : List Mb := n.pr :: (n.sc ++ n.fg)
def livesB (l : List Mb) (no : Int) : Bool := decide ((refF l no).1 = no) && decide (0 ≤ no)
theorem lives_iff {l : List Mb} {no : Int} (hn : ∀ m ∈ l, 0 ≤ m.1) : livesB l no = true ↔ ∃ m ∈ l, m.1 = no := by
  unfold livesB refF
  rw [Bool.and_eq_true, decide_eq_true_eq, decide_eq_true_eq]
  rcases find_gt (l := l) (no := no) with h | ⟨m, h, hm, hno⟩
  · rw [h]
    constructor
    · rintro ⟨h1, h2⟩
      have h1 : (-1 : Int) = no := h1
      omega
    · rintro ⟨m, hm, hno⟩
      exact absurd (decide_eq_true hno) (List.find?_eq_none.1 h m hm)
  · rw [h]
    exact ⟨fun _ => ⟨m, hm, hno⟩, fun _ => ⟨hno, by have := hn m hm; omega⟩⟩
def noN : Nd := ⟨nMb, zMb, [], []⟩
def no3 : N3 := (noN, nilV, nilV)
def getL (L : List N3) (no : Int) : N3 := (L.find? fun x => decide (x.1.me.1 = no)).getD no3
def wosN (E : List Nd) (no : Int) : List Nd := E.filter fun x => decide (x.me.1 ≠ no)
/-- with a node, in its place -/
def putS (x : N3) (p : List N3 × Bool) (y : N3) : List N3 × Bool :=
  let q := bif !p.2 && decide (x.1.me.1 ≤ y.1.me.1) then (p.1 ++ [x], true) else p
  bif decide (y.1.me.1 ≠ x.1.me.1) then (q.1 ++ [y], q.2) else q
def putK (x : N3) (L : List N3) : List N3 × Bool := L.foldl (putS x) ([], false)
def putL (L : List N3) (x : N3) : List N3 := bif (putK x L).2 then (putK x L).1 else (putK x L).1 ++ [x]
theorem putS_in {x : N3} {p : List N3 × Bool} {y z : N3} (h : z ∈ (putS x p y).1) : z ∈ p.1 ∨ z = x ∨ z = y := by
  unfold putS at h
  have key : ∀ q : List N3 × Bool, (z ∈ q.1 → z ∈ p.1 ∨ z = x ∨ z = y) → z ∈ (bif decide (y.1.me.1 ≠ x.1.me.1) then (q.1 ++ [y], q.2) else q).1 → z ∈ p.1 ∨ z = x ∨ z = y := fun q hq h => by
    cases h2 : decide (y.1.me.1 ≠ x.1.me.1) with
    | true =>
      rw [h2] at h
      rcases List.mem_append.1 h with h | h
      · exact hq h
      · exact .inr (.inr (List.mem_singleton.1 h))
    | false => rw [h2] at h; exact hq h
  refine key _ (fun h => ?_) h
  cases h1 : !p.2 && decide (x.1.me.1 ≤ y.1.me.1) with
  | true =>
    rw [h1] at h
    rcases List.mem_append.1 h with h | h
    · exact .inl h
    · exact .inr (.inl (List.mem_singleton.1 h))
  | false => rw [h1] at h; exact .inl h
theorem putK_in {x z : N3} : ∀ {L : List N3}, z ∈ (putK x L).1 → z = x ∨ z ∈ L := fun {L} => by
  unfold putK
  suffices h : ∀ (L : List N3) (p : List N3 × Bool), z ∈ (L.foldl (putS x) p).1 → z ∈ p.1 ∨ z = x ∨ z ∈ L by
    intro h9; rcases h L ([], false) h9 with h | h
    · cases h
    · exact h
  intro L
  induction L with
  | nil => intro p h; exact .inl h
  | cons y L ih =>
    intro p h
    rcases ih _ h with h | h | h
    · rcases putS_in h with h | h | h
      · exact .inl h
      · exact .inr (.inl h)
      · exact .inr (.inr (by rw [h]; exact List.mem_cons_self))
    · exact .inr (.inl h)
    · exact .inr (.inr (List.mem_cons_of_mem _ h))
theorem put_in {x z : N3} {L : List N3} (h : z ∈ putL L x) : z = x ∨ z ∈ L := by
  unfold putL at h
  cases hb : (putK x L).2 with
  | true => rw [hb] at h; exact putK_in h
  | false =>
    rw [hb] at h
    rcases List.mem_append.1 h with h | h
    · exact putK_in h
    · exact .inl (List.mem_singleton.1 h)
/-! the steps of the walk -/
theorem ps_yn {x : N3} {p : List N3 × Bool} {y : N3} (hb : p.2 = false) (h1 : decide (x.1.me.1 ≤ y.1.me.1) = true) (h2 : decide (y.1.me.1 ≠ x.1.me.1) = false) : putS x p y = (p.1 ++ [x], true) := by unfold putS; rw [hb, h1, h2]; rfl
theorem ps_ny {x : N3} {p : List N3 × Bool} {y : N3} (h : p.2 = true ∨ decide (x.1.me.1 ≤ y.1.me.1) = false) (h2 : decide (y.1.me.1 ≠ x.1.me.1) = true) : putS x p y = (p.1 ++ [y], p.2) := by
  have h1 : (!p.2 && decide (x.1.me.1 ≤ y.1.me.1)) = false := by rcases h with h | h <;> simp [h]
  unfold putS; rw [h1, h2]; rfl
/-! alike -/
/-! few -/
structure FewO (L : List N3) : Prop where
  len : L.length ≤ 18
  each : ∀ x ∈ L, x.1.sc.length ≤ 6 ∧ x.1.fg.length ≤ 18
end Go.Proofs.Ythjkhnhiciamaaa
namespace Go.Proofs.Ythjkhnhiciamaaa
open Go.RowKit
section
variable {P : Program} {ρ : Operand → Value} {d : Option Tmp} {ty : TypeId} {pos : String} {af : Array Edge} {g : Option (Nat × Bool)} {x : Operand} {t : TypeId}
end
def OvL (w : World) (N : TypeId) (K : List N3) : Asrt := fun v w' => ∃ vo, v = .agg #[vo] ∧ Owns w' w.heap.size N 68 vo K.length (n3Cells K)
end Go.Proofs.Ythjkhnhiciamaaa
namespace Go.Proofs.Ythjkhnhiciamaaa
open Go.RowKit
structure RwB (L : List N3) : Prop where
  each : ∀ x ∈ L, x.1.sc.length ≤ 300 ∧ x.1.fg.length ≤ 300
/-! which overlays may be -/
def badM (l : List Mb) (m : Mb) : Bool := decide (0 ≤ (refF l m.1).1) && !decide (refF l m.1 = m)
def badV (L : List N3) (k : Nat) : Bool := !rightN (L.getD k z3).1 || ((decide (0 < k) && decide ((L.getD k z3).1.me.1 ≤ (L.getD (k - 1) z3).1.me.1)) || (knownN (L.getD k z3).1).any (badM (memL L)))
def ovR (L : List N3) : Bool := ((List.range L.length).all fun k => !badV L k) && rightR (memL L)
/-- what it says -/
structure RO (E : List Nd) : Prop where
  rn : ∀ n ∈ E, RN n
  inc : E.Pairwise fun a b => a.me.1 < b.me.1
  kn : ∀ n ∈ E, ∀ m ∈ knownN n, ∀ s ∈ E, s.me.1 = m.1 → s.me = m
  ring : Rg (E.map (·.me))
end Go.Proofs.Ythjkhnhiciamaaa
namespace Go.Proofs.Ythjkhnhiciamaaa
end Go.Proofs.Ythjkhnhiciamaaa

namespace Go.Proofs.Ythjkhnhiciamaaa
open Go.RowKit
/-! ### one server's tending -/
theorem ovP_grp {w w' : World} {R : World → Prop} {E : List Nd} {vo : Value} {L : List N3} {A : List Own} (hE : nds L = E) (h : ∀ w9, (∀ p ∈ A, p.holds w w9) → R w9 → RdO w9 vo L) (s : St w A w') : OvP w R E (.agg #[vo]) w' := by
  refine ⟨vo, L, _, rfl, hE, (St.group (A := A) (B := []) (by rw [List.append_nil]; exact s)).weak fun w9 h9 hR => h w9 h9 hR⟩
/-! a node in its place -/
theorem putS_lo {x : N3} {acc : List N3} {y : N3} (h : y.1.me.1 < x.1.me.1) : putS x (acc, false) y = (acc ++ [y], false) :=
  ps_ny (.inr (decide_eq_false (by omega))) (decide_eq_true (by omega))
theorem putS_eq {x : N3} {acc : List N3} {y : N3} (h : y.1.me.1 = x.1.me.1) : putS x (acc, false) y = (acc ++ [x], true) :=
  ps_yn rfl (decide_eq_true (by omega)) (decide_eq_false (by omega))
theorem putS_hi {x : N3} {acc : List N3} {y : N3} (h : x.1.me.1 < y.1.me.1) : putS x (acc, true) y = (acc ++ [y], true) :=
  ps_ny (.inl rfl) (decide_eq_true (by omega))
theorem fold_lo {x : N3} : ∀ (A acc : List N3), (∀ y ∈ A, y.1.me.1 < x.1.me.1) → A.foldl (putS x) (acc, false) = (acc ++ A, false)
  | [], acc, _ => by rw [List.append_nil]; rfl
  | y :: A, acc, h => by
    rw [List.foldl_cons, putS_lo (h y List.mem_cons_self), fold_lo A _ fun z hz => h z (List.mem_cons_of_mem _ hz), List.append_assoc]; rfl
theorem fold_hi {x : N3} : ∀ (A acc : List N3), (∀ y ∈ A, x.1.me.1 < y.1.me.1) → A.foldl (putS x) (acc, true) = (acc ++ A, true)
  | [], acc, _ => by rw [List.append_nil]; rfl
  | y :: A, acc, h => by
    rw [List.foldl_cons, putS_hi (h y List.mem_cons_self), fold_hi A _ fun z hz => h z (List.mem_cons_of_mem _ hz), List.append_assoc]; rfl
theorem put_mid {A B : List N3} {x y : N3} (hA : ∀ z ∈ A, z.1.me.1 < x.1.me.1) (hy : y.1.me.1 = x.1.me.1) (hB : ∀ z ∈ B, x.1.me.1 < z.1.me.1) : putL (A ++ y :: B) x = A ++ x :: B := by
  have : putK x (A ++ y :: B) = (A ++ x :: B, true) := by
    unfold putK
    rw [List.foldl_append, fold_lo A [] hA, List.nil_append, List.foldl_cons, putS_eq hy, fold_hi B _ hB, List.append_assoc]; rfl
  unfold putL; rw [this]; rfl
/-- the nodes may be, and stand by their numbers -/
structure RS (L : List N3) : Prop where
  rn : ∀ x ∈ L, RN x.1
  inc : L.Pairwise fun a b => a.1.me.1 < b.1.me.1
  ring : Rg (memL L)
theorem RO.rs {L : List N3} (h : RO (nds L)) : RS L := by
  refine ⟨fun x hx => h.rn _ (List.mem_map.2 ⟨x, hx, rfl⟩), ?_, ?_⟩
  · have := h.inc
    unfold nds at this
    rwa [List.pairwise_map] at this
  · have := h.ring
    unfold nds at this
    rw [List.map_map] at this; exact this
theorem RS.put {L : List N3} (h : RS L) {x y : N3} (hy : y ∈ L) (he : y.1.me = x.1.me) (hx : RN x.1) : RS (putL L x) ∧ memL (putL L x) = memL L ∧ x ∈ putL L x := by
  obtain ⟨A, B, rfl⟩ := List.append_of_mem hy
  have hp := List.pairwise_append.1 h.inc
  have hp2 := List.pairwise_cons.1 hp.2.1
  have hno : y.1.me.1 = x.1.me.1 := by rw [he]
  have e := put_mid (x := x) (fun z hz => by rw [← hno]; exact hp.2.2 z hz y List.mem_cons_self) hno (fun z hz => by rw [← hno]; exact hp2.1 z hz)
  have em : memL (A ++ x :: B) = memL (A ++ y :: B) := by simp [memL, he]
  rw [e]
  refine ⟨⟨fun z hz => ?_, ?_, ?_⟩, em, by simp⟩
  · rcases List.mem_append.1 hz with hz | hz
    · exact h.rn z (List.mem_append_left _ hz)
    · rcases List.mem_cons.1 hz with rfl | hz
      · exact hx
      · exact h.rn z (List.mem_append_right _ (List.mem_cons_of_mem _ hz))
  · rw [List.pairwise_append, List.pairwise_cons]
    refine ⟨hp.1, ⟨fun z hz => by rw [← hno]; exact hp2.1 z hz, hp2.2⟩, fun a ha b hb => ?_⟩
    rcases List.mem_cons.1 hb with rfl | hb
    · rw [← hno]; exact hp.2.2 a ha y List.mem_cons_self
    · exact hp.2.2 a ha b (List.mem_cons_of_mem _ hb)
  · rw [em]; exact h.ring
theorem RS.nos {L : List N3} (h : RS L) : ∀ m ∈ memL L, 0 ≤ m.1 := fun m hm => (h.ring.nos m hm).1
theorem RS.len {L : List N3} (h : RS L) : L.length ≤ 16 := by
  have := h.ring.len
  simpa [memL] using this
theorem RS.get {L : List N3} (h : RS L) {no : Int} (hl : livesB (memL L) no = true) : getL L no ∈ L ∧ (getL L no).1.me.1 = no := by
  obtain ⟨m, hm, hno⟩ := (lives_iff h.nos).1 hl
  obtain ⟨x, hx, rfl⟩ := List.mem_map.1 hm
  unfold getL
  cases hf : L.find? fun x => decide (x.1.me.1 = no) with
  | none => exact absurd (decide_eq_true hno) (List.find?_eq_none.1 hf x hx)
  | some z => exact ⟨List.mem_of_find?_eq_some hf, by have := List.find?_some hf; exact of_decide_eq_true this⟩
/-! the steps -/
def dwn (l : List Mb) (n : Nd) : List Int := ((knownN n).filter fun m => !livesB l m.1).map (·.1)
def td1 (l : List Mb) (n : Nd) : Nd := ⟨n.me, rdP n (dwn l n), orA (withL n.sc (dwn l n) n.me.1) n.me, withL n.fg (dwn l n) n.me.1⟩
/-- all of it, by nodes -/
def mems (E : List Nd) : List Mb := E.map (·.me)
theorem mems_nd (L : List N3) : mems (nds L) = memL L := by unfold mems nds; rw [List.map_map]; rfl
end Go.Proofs.Ythjkhnhiciamaaa
namespace Go.Proofs.Ythjkhnhiciamaaa
open Go.RowKit
end Go.Proofs.Ythjkhnhiciamaaa
namespace Go.Proofs.Ythjkhnhiciamaaa
open Go.RowKit
theorem St.grp0 {w0 w : World} {B : List Own} {S : World → Prop} (s : St w0 B w) (h : ∀ w9, S w9) : St w0 (.grp [] S :: B) w :=
  (St.group (A := []) (B := B) s).weak fun w9 _ => h w9
theorem St.merge {w0 w : World} {k1 k2 : List Nat} {S1 S2 S : World → Prop} {B : List Own} (s : St w0 (.grp k1 S1 :: .grp k2 S2 :: B) w) (h : ∀ w9, S1 w9 → S2 w9 → S w9) : St w0 (.grp (k1 ++ k2) S :: B) w := by
  have g := St.group (A := [.grp k1 S1, .grp k2 S2]) (B := B) s
  have e : [Own.grp k1 S1, .grp k2 S2].flatMap Own.ks = k1 ++ k2 := by simp [Own.ks]
  unfold Own.all at g
  rw [e] at g
  exact g.weak fun w9 h9 => h w9 ((h9 (.grp k1 S1) (by simp)).2 w9 fun _ _ => rfl) ((h9 (.grp k2 S2) (by simp)).2 w9 fun _ _ => rfl)
/-! what may be, by nodes alone -/
/-! all, one by one -/
end Go.Proofs.Ythjkhnhiciamaaa

namespace Go.Proofs.Ythjkhnhiciamaaa
open Go.RowKit
/-! ### which are stable -/
end Go.Proofs.Ythjkhnhiciamaaa
namespace Go.Proofs.Ythjkhnhiciamaaa
open Go.RowKit
/-! ### who hears that another one leaves -/
end Go.Proofs.Ythjkhnhiciamaaa
namespace Go.Proofs.Ythjkhnhiciamaaa
open Go.RowKit
theorem ovP_2 {w w' : World} {N : TypeId} {R : World → Prop} {E : List Nd} {vo : Value} {L : List N3} {ks : List Nat} (hE : nds L = E) (s : St w [.sl vo N 68 L.length (n3Cells L), .grp ks (RwL L)] w') : OvP w R E (.agg #[vo]) w' :=
  ovP_grp hE (fun w9 h9 _ => ⟨RdZ.of_own (h9 (.sl vo N 68 L.length (n3Cells L)) (by simp)), (h9 (.grp ks (RwL L)) (by simp)).2 w9 fun _ _ => rfl⟩) s
end Go.Proofs.Ythjkhnhiciamaaa
namespace Go.Proofs.Ythjkhnhiciamaaa
end Go.Proofs.Ythjkhnhiciamaaa
namespace Go.Proofs.Ythjkhnhiciamaaa
open Go.RowKit
/-! ### who comes -/
def OvE (w : World) (R : World → Prop) (E : List Nd) (k : Int) : Asrt := fun v w' => ∃ o, v = .tuple #[o, .int .i64 k] ∧ OvP w R E o w'
theorem ovE_no {w w' : World} {B : List Own} {R : World → Prop} {E : List Nd} {k q : Int} (s : St w B w') (hE : E = []) (hk : k = q) : OvE w R E k (.tuple #[.agg #[nilV], .int .i64 q]) w' := by
  subst hE; subst hk; exact ⟨_, rfl, ovP_nil s⟩
theorem ovE_ok {w w' : World} {R : World → Prop} {E : List Nd} {k q : Int} {o : Value} (hk : k = q) (h : OvP w R E o w') : OvE w R E k (.tuple #[o, .int .i64 q]) w' := by
  subst hk; exact ⟨_, rfl, h⟩
end Go.Proofs.Ythjkhnhiciamaaa
namespace Go.Proofs.Ythjkhnhiciamaaa
open Go.RowKit
end Go.Proofs.Ythjkhnhiciamaaa
namespace Go.Proofs.Ythjkhnhiciamaaa
open Go.RowKit
/-! an answer that is what is wanted -/
end Go.Proofs.Ythjkhnhiciamaaa

namespace Go.Proofs.Ythjkhnhiciamaaa
open Go.RowKit
/-! ### what each function of the package answers -/
def cE (L : List N3) (no : Int) : Int := bif ovR L then bif livesB (memL L) no then 0 else 10 else 1
def cfN (L : List N3) (no : Int) : List Nd := bif decide (cE L no = 0) then wosN (nds L) no else []
abbrev RdL (vo : Value) (L : List N3) : World → Prop := fun w9 => RdO w9 vo L
/-! one that comes first -/
end Go.Proofs.Ythjkhnhiciamaaa
namespace Go.Proofs.Ythjkhnhiciamaaa
end Go.Proofs.Ythjkhnhiciamaaa
namespace Go.Proofs.Ythjkhnhiciamaaa
open Go.RowKit
/-! how long what is answered is -/
structure BdE (E : List Nd) : Prop where
  len : E.length ≤ 40
  each : ∀ n ∈ E, n.sc.length ≤ 300 ∧ n.fg.length ≤ 300
theorem BdE.l {L : List N3} {E : List Nd} (h : BdE E) (e : nds L = E) : L.length ≤ 40 := by subst e; have := h.len; simpa [nds] using this
theorem BdE.r {L : List N3} {E : List Nd} (h : BdE E) (e : nds L = E) : RwB L := by subst e; exact ⟨fun x hx => h.each _ (List.mem_map.2 ⟨x, hx, rfl⟩)⟩
theorem cf_no {L : List N3} {no k : Int} (h : cE L no = k) (h0 : k ≠ 0) : cfN L no = [] := by unfold cfN; rw [decide_eq_false (by rw [h]; exact h0)]; rfl
theorem cf_ok {L : List N3} {no : Int} (h : cE L no = 0) : cfN L no = wosN (nds L) no := by unfold cfN; rw [decide_eq_true h]; rfl
/-! what is wanted -/
def OvD (E : List Nd) : Asrt := fun v w => ∃ vo L, v = .agg #[vo] ∧ nds L = E ∧ RdO w vo L
theorem OvD.mono (E : List Nd) : Mono (OvD E) := fun _ _ _ ⟨vo, L, h1, h2, h3⟩ hE => ⟨vo, L, h1, h2, h3.keep hE⟩
theorem OvP.d {w w' : World} {R : World → Prop} {E : List Nd} {v : Value} (h : OvP w R E v w') (hR : R w') : OvD E v w' := by
  obtain ⟨vo, L, ks, h1, h2, h3⟩ := h
  exact ⟨vo, L, h1, h2, h3.getG 0 rfl hR⟩
end Go.Proofs.Ythjkhnhiciamaaa
namespace Go.Proofs.Ythjkhnhiciamaaa
open Go.RowKit
theorem OvL.d {w w' : World} {N : TypeId} {K : List N3} {E : List Nd} {v : Value} (h : OvL w N K v w') (e : nds K = E) (hr : ∀ y ∈ K, RdN w' y) : OvD E v w' := by
  obtain ⟨vo, h1, h2⟩ := h
  exact ⟨vo, K, h1, e, RdZ.of_own h2, hr⟩
end Go.Proofs.Ythjkhnhiciamaaa
namespace Go.Proofs.Ythjkhnhiciamaaa
open Go.RowKit
def OvED (E : List Nd) (k : Int) : Asrt := fun v w => ∃ o, v = .tuple #[o, .int .i64 k] ∧ OvD E o w
theorem OvED.mono (E : List Nd) (k : Int) : Mono (OvED E k) := fun _ _ _ ⟨o, h1, h2⟩ hE => ⟨o, h1, OvD.mono E _ _ _ h2 hE⟩
theorem OvE.d {w w' : World} {R : World → Prop} {E : List Nd} {k : Int} {v : Value} (h : OvE w R E k v w') (hR : R w') : OvED E k v w' := by
  obtain ⟨o, h1, h2⟩ := h
  exact ⟨o, h1, h2.d hR⟩
end Go.Proofs.Ythjkhnhiciamaaa
namespace Go.Proofs.Ythjkhnhiciamaaa
open Go.RowKit
/-! a tuple of an overlay and an error: its row by itself -/
end Go.Proofs.Ythjkhnhiciamaaa
namespace Go.Proofs.Ythjkhnhiciamaaa
open Go.RowKit
end Go.Proofs.Ythjkhnhiciamaaa

namespace Go.Proofs.Ythjkhnhiciamaaa
open Go.RowKit
/-! ### an overlay that may be stays such -/
def KnB (l : List Mb) (m : Mb) : Prop := ∀ s ∈ l, s.1 = m.1 → s = m
structure RK (L : List N3) : Prop where
  rs : RS L
  kn : ∀ x ∈ L, ∀ m ∈ knownN x.1, KnB (memL L) m
theorem RK.put {L : List N3} (h : RK L) {x y : N3} (hy : y ∈ L) (he : y.1.me = x.1.me) (hx : RN x.1) (hk : ∀ m ∈ knownN x.1, KnB (memL L) m) : RK (putL L x) := by
  obtain ⟨h1, h2, _⟩ := h.rs.put hy he hx
  refine ⟨h1, fun z hz m hm => ?_⟩
  rw [h2]
  rcases put_in hz with rfl | hz
  · exact hk m hm
  · exact h.kn z hz m hm
/-! who failed comes again -/
end Go.Proofs.Ythjkhnhiciamaaa

namespace Go.Proofs.Ythjkhnhiciamaaa
open Go.RowKit Go.ChangeShapes Go.WideShapes Go.ChangeAt
/-! ### overlays that come in -/
theorem open_ndL {H : Type} {enc : TypeId × Value → H} {P : Program} {W : World} {tm ts t tn ti e : TypeId} {g0 g1 g2 g3 f0 f1 : Field} {fuel : Nat} {cs : List Value} {x : DataW H × List MemPlace} (T : IdTy P ti e) (hc : P.cellsOf ti = 32) (hce : P.cellsOf e = 1) (hn : P.underlying tn = some (.int .i64)) (hcn : P.cellsOf tn = 1)
    (hcs : P.cellsOf ts = 1) (hts : P.underlying ts = some (.slice t)) (ht : P.underlying t = some (.struct #[f0, f1])) (h0 : f0.type = tn) (h1 : f1.type = ti) (o0 : f0.offset = 0) (o1 : f1.offset = 1) (hct : P.cellsOf t = 33)
    (htm : P.underlying tm = some (.struct #[g0, g1, g2, g3])) (ht0 : g0.type = t) (ht1 : g1.type = t) (ht2 : g2.type = ts) (ht3 : g3.type = ts) (ho0 : g0.offset = 0) (ho1 : g1.offset = 33) (ho2 : g2.offset = 66) (ho3 : g3.offset = 67) (hctm : P.cellsOf tm = 68)
    (hf : DataW.trod enc P W 0 (fun _ => true) true fuel tm cs = some x) : ∃ y : N3, cs = n3L y ∧ RdN W y := by
  obtain ⟨xs, n, hcells, _, hl, hxl, hel⟩ := DataW.trod_struct htm hf
  have hcl : cs.length = 68 := by rw [← hctm]; simpa using hl
  have hx4 : xs.length = 4 := by simpa using hxl
  have e0 := hel 0 g0 rfl
  have e1 := hel 1 g1 rfl
  have e2 := hel 2 g2 rfl
  have e3 := hel 3 g3 rfl
  rw [ht0, ho0, hct, List.getElem?_eq_getElem (by omega)] at e0
  rw [ht1, ho1, hct, List.getElem?_eq_getElem (by omega)] at e1
  rw [ht2, ho2, hcs, List.getElem?_eq_getElem (by omega)] at e2
  rw [ht3, ho3, hcs, List.getElem?_eq_getElem (by omega)] at e3
  obtain ⟨a, ha⟩ := open_mbL T hc hce hn hcn ht h0 h1 o0 o1 hct e0
  obtain ⟨b, hb⟩ := open_mbL T hc hce hn hcn ht h0 h1 o0 o1 hct e1
  obtain ⟨u, ls, hu, hls⟩ := open_mbsL T hc hce hn hcn hts ht h0 h1 o0 o1 hct e2
  obtain ⟨u2, ls2, hu2, hls2⟩ := open_mbsL T hc hce hn hcn hts ht h0 h1 o0 o1 hct e3
  exact ⟨(⟨a, b, ls, ls2⟩, u, u2), take_nd hcl ha hb hu hu2, hls, hls2⟩
theorem open_ndsL {H : Type} {enc : TypeId × Value → H} {P : Program} {W : World} {tr tm ts t tn ti e : TypeId} {g0 g1 g2 g3 f0 f1 : Field} {fuel : Nat} {cs : List Value} {x : DataW H × List MemPlace} (T : IdTy P ti e) (hc : P.cellsOf ti = 32) (hce : P.cellsOf e = 1) (hn : P.underlying tn = some (.int .i64)) (hcn : P.cellsOf tn = 1)
    (hcs : P.cellsOf ts = 1) (hts : P.underlying ts = some (.slice t)) (ht : P.underlying t = some (.struct #[f0, f1])) (h0 : f0.type = tn) (h1 : f1.type = ti) (o0 : f0.offset = 0) (o1 : f1.offset = 1) (hct : P.cellsOf t = 33)
    (htm : P.underlying tm = some (.struct #[g0, g1, g2, g3])) (ht0 : g0.type = t) (ht1 : g1.type = t) (ht2 : g2.type = ts) (ht3 : g3.type = ts) (ho0 : g0.offset = 0) (ho1 : g1.offset = 33) (ho2 : g2.offset = 66) (ho3 : g3.offset = 67) (hctm : P.cellsOf tm = 68)
    (htr : P.underlying tr = some (.slice tm)) (hf : DataW.trod enc P W 0 (fun _ => true) true fuel tr cs = some x) : ∃ (v : Value) (L : List N3), cs = [v] ∧ RdO W v L := by
  rcases Go.Deep.open_slice htr hf with ⟨hcs9, _⟩ | ⟨a', len, cap, m, k, D, Pl, hcs9, _, hl, _, hm, _, hel⟩
  · exact ⟨_, [], hcs9, ⟨rfl, .inl ⟨rfl, rfl⟩⟩, fun _ h => by cases h⟩
  · have hml : len ≤ m := by rw [hm]; split <;> omega
    have each : ∀ i, ∃ l : N3, i < len → Has W (a'.add (i * 68)) (ndArr l.1.me l.1.pr l.2.1 l.2.2) ∧ RdN W l := fun i => by
      by_cases hi : i < len
      · obtain ⟨cs', hc1, hc2⟩ := hel i (by omega)
        obtain ⟨l, hl9, hr⟩ := open_ndL T hc hce hn hcn hcs hts ht h0 h1 o0 o1 hct htm ht0 ht1 ht2 ht3 ho0 ho1 ho2 ho3 hctm hc2
        subst hl9
        refine ⟨l, fun _ => ⟨fun j u hj => ?_, hr⟩⟩
        rw [hctm] at hc1
        obtain ⟨_, hlen, hall⟩ := World.cells?_some hc1
        have hj68 : j < 68 := by have := (Array.getElem?_eq_some_iff.1 hj).1; rw [ndArr_size] at this; exact this
        have := hall j hj68
        rw [this]
        show (n3L l)[j]? = _
        rw [show n3L l = (ndArr l.1.me l.1.pr l.2.1 l.2.2).toList from rfl, Array.getElem?_toList]; exact hj
      · exact ⟨z3, fun h9 => absurd h9 hi⟩
    obtain ⟨L, hL⟩ := Classical.axiomOfChoice each
    refine ⟨_, (List.range len).map L, hcs9, ⟨?_, .inr ⟨a', cap, by simp, by simpa using hl, ?_⟩⟩, fun y hy => ?_⟩
    · rw [n3Cells_len]
    · refine has_flat _ 68 (by decide) n3L_len _ fun i hi => ?_
      have hi' : i < len := by simpa using hi
      have h9 : ((List.range len).map L)[i] = L i := by simp
      rw [h9]
      exact (hL i hi').1
    · obtain ⟨i, hi, rfl⟩ := List.mem_map.1 hy
      exact (hL i (List.mem_range.1 hi)).2
theorem open_ov {H : Type} {enc : TypeId × Value → H} {P : Program} {W : World} {r : Reach} {b0 : Nat} {to tr tm ts t tn ti e : TypeId} {k0 g0 g1 g2 g3 f0 f1 : Field} {v : Value} {d : DataW H} {ps : List MemPlace} (T : IdTy P ti e) (hc : P.cellsOf ti = 32) (hce : P.cellsOf e = 1) (hn : P.underlying tn = some (.int .i64)) (hcn : P.cellsOf tn = 1)
    (hcs : P.cellsOf ts = 1) (hts : P.underlying ts = some (.slice t)) (ht : P.underlying t = some (.struct #[f0, f1])) (h0 : f0.type = tn) (h1 : f1.type = ti) (o0 : f0.offset = 0) (o1 : f1.offset = 1) (hct : P.cellsOf t = 33)
    (htm : P.underlying tm = some (.struct #[g0, g1, g2, g3])) (ht0 : g0.type = t) (ht1 : g1.type = t) (ht2 : g2.type = ts) (ht3 : g3.type = ts) (ho0 : g0.offset = 0) (ho1 : g1.offset = 33) (ho2 : g2.offset = 66) (ho3 : g3.offset = 67) (hctm : P.cellsOf tm = 68)
    (htr : P.underlying tr = some (.slice tm)) (hcr : P.cellsOf tr = 1) (hto : P.underlying to = some (.struct #[k0])) (hk0 : k0.type = tr) (ok0 : k0.offset = 0) (hcto : P.cellsOf to = 1)
    (hval : Value.okWide P W r b0 to v) (h : DataW.Trod enc P W 0 (fun _ => true) true to v d ps) : ∃ (L : List N3) (vo : Value), v = .agg #[vo] ∧ RdO W vo L := by
  have hv : ∃ cs, v = .agg cs := by
    unfold Value.okWide at hval
    simp only [hto] at hval
    obtain ⟨cs, h9, _⟩ := hval
    exact ⟨cs, h9⟩
  obtain ⟨cs, rfl⟩ := hv
  obtain ⟨fuel, hf⟩ := h
  obtain ⟨xs, n, hcells, _, hl, hxl, hel⟩ := DataW.trod_struct hto hf
  have hcl : cs.toList.length = 1 := by rw [← hcto]; simpa [Value.cells] using hl
  have hx1 : xs.length = 1 := by simpa using hxl
  have e0 := hel 0 k0 rfl
  rw [hk0, ok0, hcr, List.getElem?_eq_getElem (by omega)] at e0
  obtain ⟨u, L, hu, hL⟩ := open_ndsL T hc hce hn hcn hcs hts ht h0 h1 o0 o1 hct htm ht0 ht1 ht2 ht3 ho0 ho1 ho2 ho3 hctm htr e0
  refine ⟨L, u, ?_, hL⟩
  simp only [Value.cells] at hu
  have key : cs.toList = [u] := by
    rw [List.drop_zero, List.take_of_length_le (by omega)] at hu
    exact hu
  have : cs = #[u] := Array.toList_inj.1 key
  rw [this]
end Go.Proofs.Ythjkhnhiciamaaa
