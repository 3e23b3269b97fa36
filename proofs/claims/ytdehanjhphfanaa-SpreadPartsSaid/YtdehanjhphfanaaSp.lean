/- Where a packet comes to in the end: links that do not come back, counts, copy by copy, more hops, fewer entries, one more trigger; no Go in it. -/
import Derived.Test.YtdehanjhphfanaaRw
set_option linter.unusedVariables false
set_option linter.unusedSimpArgs false
set_option linter.unusedSectionVars false
namespace Go.Proofs.Ytdehanjhphfanaa
open Go.RowKit
/-! ### where a packet comes to in the end -/
end Go.Proofs.Ytdehanjhphfanaa

namespace Go.Proofs.Ytdehanjhphfanaa
open Go.RowKit
/-! ### what is counted -/
@[ext] structure Cn where
  hs : Nat → Nat
  lost : Nat
  hops : Nat
  work : Nat
namespace Cn
def zero : Cn := ⟨fun _ => 0, 0, 0, 0⟩
def add (a b : Cn) : Cn := ⟨fun h => a.hs h + b.hs h, a.lost + b.lost, a.hops + b.hops, a.work + b.work⟩
theorem add_zero (a : Cn) : a.add zero = a := rfl
theorem zero_add (a : Cn) : zero.add a = a := by
  unfold add zero; cases a; simp
theorem add_assoc (a b c : Cn) : (a.add b).add c = a.add (b.add c) := by
  unfold add; simp [Nat.add_assoc]
end Cn
def wkC : Cn := ⟨fun _ => 0, 0, 0, 1⟩
def oneC (f : Pk → Cn) (o : Ot) : Cn := if o.k = 1 then ⟨fun h => if h = o.h.toNat then 1 else 0, 0, 0, 0⟩ else if o.k = 2 then f o.p else if o.y = 9 then ⟨fun _ => 0, 0, 1, 0⟩ else ⟨fun _ => 0, 1, 0, 0⟩
def sumC (f : Pk → Cn) : List Ot → Cn | [] => .zero | o :: l => (oneC f o).add (sumC f l)
/-- all copies of a packet, n of them one behind the other at most -/
noncomputable def spr (t : List Tg) : Nat → Pk → Cn | 0, _ => .zero | n + 1, p => wkC.add (sumC (spr t n) (stepO t p))
theorem sumC_congr {f g : Pk → Cn} : ∀ (l : List Ot), (∀ o ∈ l, oneC f o = oneC g o) → sumC f l = sumC g l
  | [], _ => rfl
  | o :: l, h => by
    show (oneC f o).add (sumC f l) = (oneC g o).add (sumC g l)
    rw [h o List.mem_cons_self, sumC_congr l fun x hx => h x (List.mem_cons_of_mem _ hx)]
theorem sumC_work {f : Pk → Cn} {B : Nat} : ∀ (l : List Ot), (∀ o ∈ l, (oneC f o).work ≤ B) → (sumC f l).work ≤ l.length * B
  | [], _ => by show 0 ≤ _; omega
  | o :: l, h => by
    show (oneC f o).work + (sumC f l).work ≤ (l.length + 1) * B
    have h1 := h o List.mem_cons_self
    have h2 := sumC_work l fun x hx => h x (List.mem_cons_of_mem _ hx)
    rw [Nat.succ_mul]; omega
theorem oneC_congr {f g : Pk → Cn} {o : Ot} (h : o.k = 2 → f o.p = g o.p) : oneC f o = oneC g o := by
  unfold oneC
  split
  · rfl
  · split
    · next h2 => exact h h2
    · rfl
/-- what goes on has one hop less, and there was one -/
theorem step_less {t : List Tg} {p : Pk} {o : Ot} (h : o ∈ stepO t p) (hk : o.k = 2) : (fstE p).1 ≠ 2 ∧ p.2.1 ≠ 0 ∧ o.p.2.1 = p.2.1 - 1 := by
  rcases step_mem h with ⟨_, _, rfl⟩ | ⟨_, _, _, rfl⟩ | ⟨n0, n1, _, y, _, rfl⟩ | ⟨n0, n1, _, _, _, rfl⟩ | ⟨_, _, _, _, _, rfl⟩
  · exact absurd (show (1 : Int) = 2 from hk) (by decide)
  · exact absurd (show (3 : Int) = 2 from hk) (by decide)
  · exact ⟨n0, n1, rfl⟩
  · exact ⟨n0, n1, rfl⟩
  · exact absurd (show (3 : Int) = 2 from hk) (by decide)
theorem spr_more {t : List Tg} : ∀ (n m : Nat) (p : Pk), 0 ≤ p.2.1 → p.2.1 < n → p.2.1 < m → spr t n p = spr t m p
  | 0, _, p, h0, h1, _ => by omega
  | _, 0, p, h0, _, h2 => by omega
  | n + 1, m + 1, p, h0, h1, h2 => by
    show wkC.add (sumC (spr t n) (stepO t p)) = wkC.add (sumC (spr t m) (stepO t p))
    rw [sumC_congr (f := spr t n) (g := spr t m) _ fun o ho => oneC_congr fun hk => by
      obtain ⟨_, a, b⟩ := step_less ho hk
      exact spr_more n m o.p (by omega) (by omega) (by omega)]
/-! ### none is dead by hops -/
/-- the links of a table, by keys -/
def lnkT (t : List Tg) : List (Id × Id) := (t.filter fun x => decide (x.2.1.1 = 1)).map fun x => (x.1, x.2.1.2.1)
end Go.Proofs.Ytdehanjhphfanaa

namespace Go.Proofs.Ytdehanjhphfanaa
open Go.RowKit
/-! ### more hops, parts, the bound -/
theorem spr_part {t : List Tg} {p : Pk} (n : Nat) (h : (fstE p).1 = 1) (h1 : p.2.1 ≠ 0) (hz : mtF t (fstE p).2.1 = []) (hl : 1 < p.1.length) : spr t (n + 1) p = wkC.add (spr t n (p.1.drop 1, p.2.1 - 1, p.2.2)) := by
  show wkC.add (sumC (spr t n) (stepO t p)) = _
  rw [stepO_next (decide_eq_false (by rw [h]; decide)) (decide_eq_false h1) (decide_eq_true (by rw [hz]; rfl)) (decide_eq_true hl)]
  rfl
/-- 1 and so many products -/
def bnd (F : Nat) : Nat → Nat | 0 => 1 | h + 1 => 1 + F * bnd F h
theorem spr_work {t : List Tg} : ∀ (n : Nat) (p : Pk), 0 ≤ p.2.1 → p.2.1 < n → 1 ≤ (spr t n p).work ∧ (spr t n p).work ≤ bnd (max t.length 1) p.2.1.toNat
  | 0, p, h0, h1 => by omega
  | n + 1, p, h0, h1 => by
    show 1 ≤ 1 + (sumC (spr t n) (stepO t p)).work ∧ 1 + (sumC (spr t n) (stepO t p)).work ≤ _
    refine ⟨Nat.le_add_right _ _, ?_⟩
    have hl := (step_len (t := t) (p := p)).2
    have one0 : ∀ o : Ot, o.k ≠ 2 → (oneC (spr t n) o).work = 0 := fun o h => by
      unfold oneC; rw [if_neg h]
      split
      · rfl
      · split <;> rfl
    cases hh : p.2.1.toNat with
    | zero =>
      have := sumC_work (f := spr t n) (B := 0) (stepO t p) fun o ho => by
        by_cases hk : o.k = 2
        · obtain ⟨_, a, _⟩ := step_less ho hk; omega
        · rw [one0 o hk]; exact Nat.le_refl _
      show _ ≤ 1; omega
    | succ h =>
      have := sumC_work (f := spr t n) (B := bnd (max t.length 1) h) (stepO t p) fun o ho => by
        by_cases hk : o.k = 2
        · obtain ⟨_, a, b⟩ := step_less ho hk
          have := (spr_work (t := t) n o.p (by omega) (by omega)).2
          rw [show o.p.2.1.toNat = h by omega] at this
          unfold oneC
          rw [if_neg (by rw [hk]; decide), if_pos hk]; exact this
        · rw [one0 o hk]; exact Nat.zero_le _
      have h2 := Nat.mul_le_mul_right (bnd (max t.length 1) h) hl
      show _ ≤ 1 + max t.length 1 * bnd (max t.length 1) h
      omega
/-! the bound, as the document's own counts it: 2^40 at most -/
/-! ### copy by copy, till it is too much -/
noncomputable def goF (t : List Tg) : Nat → Cn → Pk → Cn
  | 0, c, _ => c
  | n + 1, c, p => if 1000 < c.work then c else (stepO t p).foldl (fun s o => if o.k = 2 then goF t n s o.p else s.add (oneC (fun _ => .zero) o)) (c.add wkC)
def stC (f : Cn → Pk → Cn) (s : Cn) (o : Ot) : Cn := if o.k = 2 then f s o.p else s.add (oneC (fun _ => .zero) o)
theorem go_list {t : List Tg} {n : Nat} {f : Cn → Pk → Cn} : ∀ (l : List Ot) (c : Cn),
    (∀ o ∈ l, o.k = 2 → ∀ s : Cn, s.work ≤ 1001 → (s.work + (spr t n o.p).work ≤ 1001 → f s o.p = s.add (spr t n o.p)) ∧ (1001 ≤ s.work + (spr t n o.p).work → (f s o.p).work = 1001)) →
    c.work ≤ 1001 → (c.work + (sumC (spr t n) l).work ≤ 1001 → l.foldl (stC f) c = c.add (sumC (spr t n) l)) ∧ (1001 ≤ c.work + (sumC (spr t n) l).work → (l.foldl (stC f) c).work = 1001)
  | [], c, _, hc => ⟨fun _ => (Cn.add_zero c).symm, fun h => by show c.work = 1001; have h : 1001 ≤ c.work + 0 := h; omega⟩
  | o :: l, c, h, hc => by
    have ho : (c.work + (oneC (spr t n) o).work ≤ 1001 → stC f c o = c.add (oneC (spr t n) o)) ∧ (1001 ≤ c.work + (oneC (spr t n) o).work → (stC f c o).work = 1001) := by
      by_cases hk : o.k = 2
      · have e : oneC (spr t n) o = spr t n o.p := by unfold oneC; rw [if_neg (by rw [hk]; decide), if_pos hk]
        have e2 : stC f c o = f c o.p := by unfold stC; rw [if_pos hk]
        rw [e, e2]; exact h o List.mem_cons_self hk c hc
      · have e : oneC (spr t n) o = oneC (fun _ => .zero) o := oneC_congr fun h9 => absurd h9 hk
        have e2 : stC f c o = c.add (oneC (spr t n) o) := by unfold stC; rw [if_neg hk, e]
        rw [e2]
        refine ⟨fun _ => rfl, fun h9 => ?_⟩
        have w0 : (oneC (spr t n) o).work = 0 := by
          unfold oneC; rw [if_neg hk]
          split
          · rfl
          · split <;> rfl
        show c.work + (oneC (spr t n) o).work = 1001
        omega
    have hr := fun c1 h1 => go_list (t := t) (n := n) (f := f) l c1 (fun x hx => h x (List.mem_cons_of_mem _ hx)) h1
    show (c.work + ((oneC (spr t n) o).work + (sumC (spr t n) l).work) ≤ 1001 → l.foldl (stC f) (stC f c o) = c.add ((oneC (spr t n) o).add (sumC (spr t n) l))) ∧ (1001 ≤ c.work + ((oneC (spr t n) o).work + (sumC (spr t n) l).work) → (l.foldl (stC f) (stC f c o)).work = 1001)
    rcases Nat.le_total (c.work + (oneC (spr t n) o).work) 1001 with g | g
    · have e := ho.1 g
      have hw : (stC f c o).work = c.work + (oneC (spr t n) o).work := by rw [e]; rfl
      obtain ⟨r1, r2⟩ := hr (stC f c o) (by omega)
      refine ⟨fun h9 => ?_, fun h9 => r2 (by omega)⟩
      rw [r1 (by omega), e, Cn.add_assoc]
    · have e := ho.2 g
      obtain ⟨r1, r2⟩ := hr (stC f c o) (by omega)
      refine ⟨fun h9 => ?_, fun _ => r2 (by omega)⟩
      have e1 := ho.1 (by omega)
      rw [r1 (by omega), e1, Cn.add_assoc]
theorem go_is {t : List Tg} : ∀ (n : Nat) (p : Pk) (c : Cn), 0 ≤ p.2.1 → p.2.1 < n → c.work ≤ 1001 →
    (c.work + (spr t n p).work ≤ 1001 → goF t n c p = c.add (spr t n p)) ∧ (1001 ≤ c.work + (spr t n p).work → (goF t n c p).work = 1001)
  | 0, p, c, h0, h1, _ => by omega
  | n + 1, p, c, h0, h1, hc => by
    have e : goF t (n + 1) c p = if 1000 < c.work then c else (stepO t p).foldl (stC (goF t n)) (c.add wkC) := rfl
    have es : spr t (n + 1) p = wkC.add (sumC (spr t n) (stepO t p)) := rfl
    have ew : (spr t (n + 1) p).work = 1 + (sumC (spr t n) (stepO t p)).work := rfl
    rw [e]
    by_cases hw : 1000 < c.work
    · rw [if_pos hw]
      exact ⟨fun h => by omega, fun _ => by omega⟩
    · rw [if_neg hw]
      have hcw : (c.add wkC).work = c.work + 1 := rfl
      obtain ⟨r1, r2⟩ := go_list (t := t) (n := n) (f := goF t n) (stepO t p) (c.add wkC) (fun o ho hk s hs => by
        obtain ⟨_, a, b⟩ := step_less ho hk
        exact go_is n o.p s (by omega) (by omega) hs) (by omega)
      refine ⟨fun h => ?_, fun h => r2 (by omega)⟩
      rw [r1 (by omega), es, Cn.add_assoc]
end Go.Proofs.Ytdehanjhphfanaa

namespace Go.Proofs.Ytdehanjhphfanaa
open Go.RowKit
/-! ### whole packets, queues, hosts -/
noncomputable def full (t : List Tg) (p : Pk) : Cn := spr t (p.2.1.toNat + 1) p
theorem full_at {t : List Tg} {n : Nat} {p : Pk} (h0 : 0 ≤ p.2.1) (h1 : p.2.1 < n) : spr t n p = full t p := spr_more n _ p h0 h1 (by omega)
theorem full_is {t : List Tg} {p : Pk} (h0 : 0 ≤ p.2.1) : full t p = wkC.add (sumC (full t) (stepO t p)) := by
  show wkC.add (sumC (spr t p.2.1.toNat) (stepO t p)) = _
  rw [sumC_congr (f := spr t p.2.1.toNat) (g := full t) _ fun o ho => oneC_congr fun hk => by
    obtain ⟨_, a, b⟩ := step_less ho hk
    exact full_at (by omega) (by omega)]
theorem Cn.add_comm (a b : Cn) : a.add b = b.add a := by
  unfold Cn.add
  simp only [Nat.add_comm]
def hostsL (c : Cn) : List Int := (List.range 16).flatMap fun h => List.replicate (c.hs h) (h : Int)
/-! ### one that adds nothing -/
/-! ### one that is alone -/
end Go.Proofs.Ytdehanjhphfanaa

namespace Go.Proofs.Ytdehanjhphfanaa
open Go.RowKit
/-! ### copy by copy: what the walk wants -/
structure COk (c : Cn) : Prop where
  hs : ∀ h, c.hs h ≤ c.work
  lost : c.lost ≤ c.work
  hops : c.hops ≤ c.work
  work : c.work ≤ 1001
theorem COk.wk {c : Cn} (h : COk c) (hw : ¬ 1000 < c.work) : COk (c.add wkC) :=
  ⟨fun x => by have := h.hs x; show c.hs x + 0 ≤ c.work + 1; omega, by have := h.lost; show c.lost + 0 ≤ c.work + 1; omega, by have := h.hops; show c.hops + 0 ≤ c.work + 1; omega, by show c.work + 1 ≤ 1001; omega⟩
theorem fold_ok {f : Cn → Pk → Cn} : ∀ (l : List Ot) (c : Cn), (∀ o ∈ l, o.k = 2) → (∀ o ∈ l, ∀ s, COk s → COk (f s o.p)) → COk c → COk (l.foldl (stC f) c)
  | [], _, _, _, h => h
  | o :: l, c, hk, hf, h => by
    show COk (l.foldl (stC f) (stC f c o))
    refine fold_ok l _ (fun x hx => hk x (List.mem_cons_of_mem _ hx)) (fun x hx => hf x (List.mem_cons_of_mem _ hx)) ?_
    unfold stC
    rw [if_pos (hk o List.mem_cons_self)]
    exact hf o List.mem_cons_self c h
theorem step_all {t : List Tg} {p : Pk} : (∀ o ∈ stepO t p, o.k = 2) ∨ ∃ o, stepO t p = [o] ∧ o.k ≠ 2 := by
  by_cases h : ∃ o ∈ stepO t p, o.k ≠ 2
  · obtain ⟨o, ho, hk⟩ := h
    have := step_not ho hk
    match hl : stepO t p, this with
    | [x], _ =>
      rw [hl] at ho
      exact .inr ⟨x, rfl, by rw [← List.mem_singleton.1 ho]; exact hk⟩
  · exact .inl fun o ho => Classical.byContradiction fun hk => h ⟨o, ho, hk⟩
theorem goO_ok {c : Cn} {o : Ot} (h : COk c) (hw : ¬ 1000 < c.work) (hk : o.k ≠ 2) : COk ((c.add wkC).add (oneC (fun _ => .zero) o)) := by
  have h1 := h.hs; have h2 := h.lost; have h3 := h.hops
  unfold oneC
  rw [if_neg hk]
  split
  · refine ⟨fun x => ?_, ?_, ?_, ?_⟩
    · have := h1 x
      show c.hs x + 0 + (if x = o.h.toNat then 1 else 0) ≤ c.work + 1 + 0
      split <;> omega
    · show c.lost + 0 + 0 ≤ c.work + 1 + 0; omega
    · show c.hops + 0 + 0 ≤ c.work + 1 + 0; omega
    · show c.work + 1 + 0 ≤ 1001; omega
  · split
    · refine ⟨fun x => ?_, ?_, ?_, ?_⟩
      · have := h1 x; show c.hs x + 0 + 0 ≤ c.work + 1 + 0; omega
      · show c.lost + 0 + 0 ≤ c.work + 1 + 0; omega
      · show c.hops + 0 + 1 ≤ c.work + 1 + 0; omega
      · show c.work + 1 + 0 ≤ 1001; omega
    · refine ⟨fun x => ?_, ?_, ?_, ?_⟩
      · have := h1 x; show c.hs x + 0 + 0 ≤ c.work + 1 + 0; omega
      · show c.lost + 0 + 1 ≤ c.work + 1 + 0; omega
      · show c.hops + 0 + 0 ≤ c.work + 1 + 0; omega
      · show c.work + 1 + 0 ≤ 1001; omega
noncomputable def goK (t : List Tg) (n : Nat) (c : Cn) (p : Pk) (k : Nat) : Cn := ((stepO t p).take k).foldl (stC (goF t n)) (c.add wkC)
theorem go_big {t : List Tg} {n : Nat} {c : Cn} {p : Pk} (h : 1000 < c.work) : goF t (n + 1) c p = c := by show (if 1000 < c.work then c else _) = c; rw [if_pos h]
theorem otD {l : List Ot} {j : Nat} (hj : j < l.length) : l[j] = l.getD j zOt := by rw [List.getD_eq_getElem?_getD, List.getElem?_eq_getElem hj]; rfl
theorem goK_s {t : List Tg} {n : Nat} {c : Cn} {p : Pk} {k : Nat} (hk : k < (stepO t p).length) : goK t n c p (k + 1) = stC (goF t n) (goK t n c p k) ((stepO t p).getD k zOt) := by
  unfold goK
  rw [List.take_succ_eq_append_getElem hk, List.foldl_append, otD hk]; rfl
theorem goK_end {t : List Tg} {n : Nat} {c : Cn} {p : Pk} (h : ¬ 1000 < c.work) : goK t n c p (stepO t p).length = goF t (n + 1) c p := by
  unfold goK
  rw [List.take_length]
  show _ = if 1000 < c.work then c else _
  rw [if_neg h]; rfl
theorem go_ok {t : List Tg} : ∀ (n : Nat) (p : Pk) (c : Cn), COk c → COk (goF t n c p)
  | 0, _, _, h => h
  | n + 1, p, c, h => by
    by_cases hw : 1000 < c.work
    · rw [go_big hw]; exact h
    · rw [← goK_end hw]
      unfold goK
      rw [List.take_length]
      rcases step_all (t := t) (p := p) with ha | ⟨o, e, hk⟩
      · exact fold_ok _ _ ha (fun o _ s hs => go_ok n o.p s hs) (h.wk hw)
      · rw [e]
        show COk (stC (goF t n) (c.add wkC) o)
        unfold stC
        rw [if_neg hk]
        exact goO_ok h hw hk
theorem goK_ok {t : List Tg} {n : Nat} {c : Cn} {p : Pk} {k : Nat} (h : COk c) (hw : ¬ 1000 < c.work) (hk : k < (stepO t p).length) : COk (goK t n c p k) := by
  rcases step_all (t := t) (p := p) with ha | ⟨o, e, _⟩
  · exact fold_ok _ _ (fun o ho => ha o (List.mem_of_mem_take ho)) (fun o _ s hs => go_ok n o.p s hs) (h.wk hw)
  · have : k = 0 := by rw [e] at hk; have : k < 1 := hk; omega
    subst this
    exact h.wk hw
/-- a host is one of the sixteen -/
theorem step_hostB {t : List Tg} {p : Pk} {o : Ot} (hr : rightP p = true) (ho : o ∈ stepO t p) (hk : o.k = 1) : 0 ≤ o.h ∧ o.h < 16 := by
  have hl := (rightP_iff.1 hr).1
  rcases step_mem ho with ⟨h2, _, rfl⟩ | ⟨_, _, _, rfl⟩ | ⟨_, _, _, y, _, rfl⟩ | ⟨_, _, _, _, _, rfl⟩ | ⟨_, _, _, _, _, rfl⟩
  · have hm : fstE p ∈ p.1 := by
      obtain ⟨l, m, d⟩ := p
      match l, hl.1 with
      | e :: l, _ => exact List.mem_cons_self
    have := hl.2.2 _ hm
    unfold isE at this
    simp only [Bool.or_eq_true, Bool.and_eq_true, decide_eq_true_eq] at this
    rcases this with ⟨a, _⟩ | ⟨⟨_, b⟩, c⟩
    · rw [h2] at a; exact absurd a (by decide)
    · exact ⟨b, c⟩
  · exact absurd (show (3 : Int) = 1 from hk) (by decide)
  · exact absurd (show (2 : Int) = 1 from hk) (by decide)
  · exact absurd (show (2 : Int) = 1 from hk) (by decide)
  · exact absurd (show (3 : Int) = 1 from hk) (by decide)
end Go.Proofs.Ytdehanjhphfanaa

namespace Go.Proofs.Ytdehanjhphfanaa
open Go.RowKit
/-! ### what the walks want of spreads: four cells -/
def ssL (v : Value) (l h k : Int) : List Value := [v, .int .i64 l, .int .i64 h, .int .i64 k]
def ssArr (v : Value) (l h k : Int) : Array Value := (ssL v l h k).toArray
theorem ssArr_size (v : Value) (l h k : Int) : (ssArr v l h k).size = 4 := rfl
theorem ssArr_ones {v : Value} (l h k : Int) (hv : v.oneCell' = true) : ∀ u ∈ (ssArr v l h k).toList, u.oneCell' = true := fun u hu => by
  have hu : u ∈ ssL v l h k := hu
  unfold ssL at hu
  simp only [List.mem_cons, List.not_mem_nil, or_false] at hu
  rcases hu with rfl | rfl | rfl | rfl
  · exact hv
  · rfl
  · rfl
  · rfl
theorem ss_v (v : Value) (l h k : Int) : (ssArr v l h k)[0]? = some v := rfl
theorem ss_l (v : Value) (l h k : Int) : (ssArr v l h k)[1]? = some (.int .i64 l) := rfl
theorem ss_h (v : Value) (l h k : Int) : (ssArr v l h k)[2]? = some (.int .i64 h) := rfl
theorem ss_k (v : Value) (l h k : Int) : (ssArr v l h k)[3]? = some (.int .i64 k) := rfl
def ssZ : List (List Value) := [[.slice none 0 0], [.int .i64 0], [.int .i64 0], [.int .i64 0]]
section
variable {P : Program} {ρ : Operand → Value} {d : Option Tmp} {ty : TypeId} {pos : String} {af : Array Edge} {g : Option (Nat × Bool)} {x y z : Operand} {t : TypeId}
theorem ru_build_ss0 (S : Stt P t ssZ) : RunsTo P ⟨d, .build t #[], ty, pos, af, g⟩ ρ (.agg (ssArr nilV 0 0 0)) := by
  have := ru_build_st (P := P) (ρ := ρ) (d := d) (ty := ty) (pos := pos) (af := af) (g := g) (parts := #[]) S [] (by simp) (fun i v hm => by simp at hm) (D := ssL nilV 0 0 0) rfl
  exact this
theorem ru_build_ss1 {v : Value} (S : Stt P t ssZ) (hv : v.cells.size = 1) (hc : v.cells.toList = [v]) (hx : ρ x = v) : RunsTo P ⟨d, .build t #[(0, x)], ty, pos, af, g⟩ ρ (.agg (ssArr v 0 0 0)) := by
  have := ru_build_st (P := P) (ρ := ρ) (d := d) (ty := ty) (pos := pos) (af := af) (g := g) (parts := #[(0, x)]) S [(0, v)] (by simp [hx]) (fun i u hm => by
    simp only [List.mem_cons, Prod.mk.injEq, List.not_mem_nil, or_false] at hm
    obtain ⟨rfl, rfl⟩ := hm
    exact ⟨_, rfl, hv⟩) (D := ssL v 0 0 0) (by
      show v.cells.toList ++ ([Value.int .i64 0] ++ ([Value.int .i64 0] ++ ([Value.int .i64 0] ++ []))) = _
      rw [hc]; rfl)
  exact this
theorem ru_build_ss3 {l h k : Int} (S : Stt P t ssZ) (hx : ρ x = .int .i64 l) (hy : ρ y = .int .i64 h) (hz : ρ z = .int .i64 k) : RunsTo P ⟨d, .build t #[(1, x), (2, y), (3, z)], ty, pos, af, g⟩ ρ (.agg (ssArr nilV l h k)) := by
  have := ru_build_st (P := P) (ρ := ρ) (d := d) (ty := ty) (pos := pos) (af := af) (g := g) (parts := #[(1, x), (2, y), (3, z)]) S [(1, .int .i64 l), (2, .int .i64 h), (3, .int .i64 k)] (by simp [hx, hy, hz]) (fun i u hm => by
    simp only [List.mem_cons, Prod.mk.injEq, List.not_mem_nil, or_false] at hm
    rcases hm with ⟨rfl, rfl⟩ | ⟨rfl, rfl⟩ | ⟨rfl, rfl⟩
    · exact ⟨_, rfl, rfl⟩
    · exact ⟨_, rfl, rfl⟩
    · exact ⟨_, rfl, rfl⟩) (D := ssL nilV l h k) rfl
  exact this
theorem ru_build_lk {a b : Id} (S : Stt P t [(idArr 0#256).toList, (idArr 0#256).toList]) (hx : ρ x = .agg (idArr a)) (hy : ρ y = .agg (idArr b)) : RunsTo P ⟨d, .build t #[(0, x), (1, y)], ty, pos, af, g⟩ ρ (.agg (lArr (a, b))) := by
  have := ru_build_st (P := P) (ρ := ρ) (d := d) (ty := ty) (pos := pos) (af := af) (g := g) (parts := #[(0, x), (1, y)]) S [(0, .agg (idArr a)), (1, .agg (idArr b))] (by simp [hx, hy]) (fun i u hm => by
    simp only [List.mem_cons, Prod.mk.injEq, List.not_mem_nil, or_false] at hm
    rcases hm with ⟨rfl, rfl⟩ | ⟨rfl, rfl⟩
    · exact ⟨_, rfl, by rw [Array.length_toList, idArr_size]; exact idArr_size _⟩
    · exact ⟨_, rfl, by rw [Array.length_toList, idArr_size]; exact idArr_size _⟩) (D := (lArr (a, b)).toList) (by
      show (idArr a).toList ++ ((idArr b).toList ++ []) = _
      rw [List.append_nil]; exact lArr_cat a b)
  simpa using this
end
/-! where it came to -/
structure Sd where
  hosts : List Int
  lost : Int
  hops : Int
  work : Int
deriving DecidableEq
def zSd : Sd := ⟨[], 0, 0, 0⟩
theorem int_at {l : List Int} {k : Nat} (h : k < l.length) : (intC l)[k]? = some (.int .i64 (l.getD k 0)) := by
  rw [List.getElem?_map, List.getElem?_eq_getElem h, List.getD_eq_getElem?_getD, List.getElem?_eq_getElem h]; rfl
theorem sd_no {x y : Sd} {α : Type} [DecidableEq α] (f : Sd → α) (h : decide (f x = f y) = false) : decide (x = y) = false := decide_eq_false fun e => of_decide_eq_false h (by rw [e])
theorem sd_nk {x y : Sd} {k : Nat} (h : ¬ x.hosts.getD k 0 = y.hosts.getD k 0) : decide (x = y) = false := decide_eq_false fun e => h (by rw [e])
theorem sd_yes {x y : Sd} (h : x.hosts.length = y.hosts.length) (h1 : x.lost = y.lost) (h2 : x.hops = y.hops) (h3 : x.work = y.work) (hk : ∀ j, j < x.hosts.length → x.hosts.getD j 0 = y.hosts.getD j 0) : decide (x = y) = true := decide_eq_true (by
  have : x.hosts = y.hosts := List.ext_getElem h fun j g1 g2 => by
    have := hk j g1
    rwa [List.getD_eq_getElem?_getD, List.getD_eq_getElem?_getD, List.getElem?_eq_getElem g1, List.getElem?_eq_getElem g2] at this
  cases x; cases y; subst this; subst h1; subst h2; subst h3; rfl)
theorem int_next {l r : List Int} {k : Nat} (h : ∀ j, j < k → l.getD j 0 = r.getD j 0) (he : l.getD k 0 = r.getD k 0) : ∀ j, j < k + 1 → l.getD j 0 = r.getD j 0 := fun j hj => by
  rcases Nat.lt_or_ge j k with g | g
  · exact h j g
  · obtain rfl : j = k := by omega
    exact he
/-! links of a table -/
def lnkK (t : List Tg) (k : Nat) : List Lnk := lnkT (t.take k)
theorem lnkK_y {t : List Tg} {k : Nat} (hk : k < t.length) (h : decide ((t.getD k zTg).2.1.1 = 1) = true) : lnkK t (k + 1) = lnkK t k ++ [((t.getD k zTg).1, (t.getD k zTg).2.1.2.1)] := by
  unfold lnkK lnkT
  rw [take_tg hk, List.filter_append, List.map_append]
  have : ([t.getD k zTg].filter fun x => decide (x.2.1.1 = 1)) = [t.getD k zTg] := List.filter_cons_of_pos (p := fun x : Tg => decide (x.2.1.1 = 1)) h
  rw [this]; rfl
theorem lnkK_n {t : List Tg} {k : Nat} (hk : k < t.length) (h : decide ((t.getD k zTg).2.1.1 = 1) = false) : lnkK t (k + 1) = lnkK t k := by
  unfold lnkK lnkT
  rw [take_tg hk, List.filter_append, List.map_append]
  have : ([t.getD k zTg].filter fun x => decide (x.2.1.1 = 1)) = [] := List.filter_cons_of_neg (p := fun x : Tg => decide (x.2.1.1 = 1)) (by rw [h]; decide)
  rw [this]; exact List.append_nil _
theorem lnkK_le (t : List Tg) (k : Nat) : (lnkK t k).length ≤ k := by
  unfold lnkK lnkT
  rw [List.length_map]
  exact Nat.le_trans (List.length_filter_le _ _) (by rw [List.length_take]; exact Nat.min_le_left _ _)
theorem one_lk (x : Lnk) : ([Value.agg (lArr x)].flatMap fun v => v.cells.toList) = (lArr x).toList := by simp [Value.cells]
theorem lk_snoc (l : List Lnk) (x : Lnk) : lCells l ++ (lArr x).toList = lCells (l ++ [x]) := by rw [lCells_app]; simp [lCells]
theorem lk_sz (x : Lnk) : ∀ v ∈ ([.agg (lArr x)] : List Value), v.cells.size = 64 := fun v hv => by
  rw [List.mem_singleton] at hv; subst hv; exact lArr_size x
end Go.Proofs.Ytdehanjhphfanaa

namespace Go.Proofs.Ytdehanjhphfanaa
open Go.RowKit
/-! ### copy by copy, in memory -/
def hsC (c : Cn) : List Value := (List.range 16).map fun h => Value.int .i64 (c.hs h : Int)
theorem hsC_len (c : Cn) : (hsC c).length = 16 := by unfold hsC; rw [List.length_map, List.length_range]
theorem hs_at {c : Cn} {h : Nat} (hh : h < 16) : (hsC c)[h]? = some (.int .i64 (c.hs h : Int)) := by
  unfold hsC
  rw [List.getElem?_map, List.getElem?_range hh]; rfl
def hostC (h : Nat) : Cn := ⟨fun x => if x = h then 1 else 0, 0, 0, 0⟩
theorem hs_set {c : Cn} {h : Nat} : (hsC c).set h (.int .i64 ((c.hs h : Int) + 1)) = hsC (c.add (hostC h)) := by
  refine List.ext_getElem? fun j => ?_
  rcases Nat.lt_or_ge j 16 with hj | hj
  · rw [List.getElem?_set, hs_at hj, hs_at hj]
    show (if h = j then _ else _) = some (Value.int .i64 ((c.hs j + (if j = h then 1 else 0) : Nat) : Int))
    by_cases e : h = j
    · subst e; rw [if_pos rfl, if_pos rfl, if_pos (by rw [hsC_len]; exact hj)]; rfl
    · rw [if_neg e, if_neg (fun e9 => e e9.symm)]; rfl
  · rw [List.getElem?_eq_none (by rw [List.length_set, hsC_len]; exact hj), List.getElem?_eq_none (by rw [hsC_len]; exact hj)]
theorem outs_get {K : List O2} {R : List Ot} {k : Nat} (h : outs K = R) (hk : k < K.length) : R.getD k zOt = (K.getD k zO2).1 := by
  rw [← h, List.getD_eq_getElem?_getD, outs_at hk]; rfl
theorem goK_x {t : List Tg} {n : Nat} {c : Cn} {p : Pk} {K : List O2} {k : Nat} (h : outs K = stepO t p) (hk : k < K.length) : goK t n c p (k + 1) = stC (goF t n) (goK t n c p k) (K.getD k zO2).1 := by
  rw [goK_s (by rw [← h, outs_len]; exact hk), outs_get h hk]
theorem st_1 {f : Cn → Pk → Cn} {s : Cn} {o : Ot} (h : decide (o.k = 1) = true) : stC f s o = s.add (hostC o.h.toNat) := by
  have h := of_decide_eq_true h
  unfold stC oneC
  rw [if_neg (by rw [h]; decide), if_pos h]; rfl
theorem st_2 {f : Cn → Pk → Cn} {s : Cn} {o : Ot} (h : decide (o.k = 2) = true) : stC f s o = f s o.p := by
  unfold stC; rw [if_pos (of_decide_eq_true h)]
theorem st_9 {f : Cn → Pk → Cn} {s : Cn} {o : Ot} (h1 : decide (o.k = 1) = false) (h2 : decide (o.k = 2) = false) (h : decide (o.y = 9) = true) : stC f s o = s.add ⟨fun _ => 0, 0, 1, 0⟩ := by
  unfold stC oneC
  rw [if_neg (of_decide_eq_false h2), if_neg (of_decide_eq_false h1), if_neg (of_decide_eq_false h2), if_pos (of_decide_eq_true h)]
theorem st_6 {f : Cn → Pk → Cn} {s : Cn} {o : Ot} (h1 : decide (o.k = 1) = false) (h2 : decide (o.k = 2) = false) (h : decide (o.y = 9) = false) : stC f s o = s.add ⟨fun _ => 0, 1, 0, 0⟩ := by
  unfold stC oneC
  rw [if_neg (of_decide_eq_false h2), if_neg (of_decide_eq_false h1), if_neg (of_decide_eq_false h2), if_neg (of_decide_eq_false h)]
/-! where it comes to, in a row -/
theorem zero_ok : COk .zero := ⟨fun _ => Nat.le_refl _, Nat.le_refl _, Nat.le_refl _, Nat.zero_le _⟩
noncomputable def delB (t : List Tg) (p : Pk) : Bool := decide ((full t p).work ≤ 1000)
noncomputable def delD (t : List Tg) (p : Pk) : Sd := bif delB t p then ⟨hostsL (full t p), (full t p).lost, (full t p).hops, (full t p).work⟩ else zSd
theorem go_full {t : List Tg} {p : Pk} (h : 0 ≤ p.2.1) : (1000 < (goF t (p.2.1.toNat + 1) .zero p).work → delB t p = false) ∧ (¬ 1000 < (goF t (p.2.1.toNat + 1) .zero p).work → goF t (p.2.1.toNat + 1) .zero p = full t p ∧ delB t p = true) := by
  obtain ⟨h1, h2⟩ := go_is (t := t) (p.2.1.toNat + 1) p .zero h (by omega) (by decide)
  have hf : spr t (p.2.1.toNat + 1) p = full t p := rfl
  have hz : Cn.zero.work = 0 := rfl
  rw [hf, hz, Nat.zero_add] at h1 h2
  rw [Cn.zero_add] at h1
  unfold delB
  rcases Nat.lt_or_ge 1000 (full t p).work with g | g
  · have h3 := h2 (by omega)
    exact ⟨fun _ => decide_eq_false (by omega), fun h9 => absurd (show 1000 < _ by rw [h3]; decide) h9⟩
  · have h3 := h1 (by omega)
    refine ⟨fun h9 => ?_, fun _ => ⟨h3, decide_eq_true g⟩⟩
    rw [h3] at h9; omega
def hostK (c : Cn) (k : Nat) : List Int := (List.range k).flatMap fun h => List.replicate (c.hs h) (h : Int)
theorem hostK_s (c : Cn) (k : Nat) : hostK c (k + 1) = hostK c k ++ List.replicate (c.hs k) (k : Int) := by
  unfold hostK
  rw [List.range_succ, List.flatMap_append]
  simp
theorem hostK_le {c : Cn} (h : COk c) : ∀ k, (hostK c k).length ≤ k * 1001
  | 0 => Nat.zero_le _
  | k + 1 => by
    rw [hostK_s, List.length_append, List.length_replicate]
    have h1 := hostK_le h k
    have h2 := h.hs k
    have h3 := h.work
    omega
theorem rep_s (l : List Int) (j : Nat) (x : Int) : (l ++ List.replicate j x) ++ [x] = l ++ List.replicate (j + 1) x := by
  rw [List.append_assoc, List.replicate_succ']
theorem int_put (l : List Int) (x : Int) : intC l ++ ([Value.int .i64 x].flatMap fun v => v.cells.toList) = intC (l ++ [x]) := by
  show l.map (Value.int .i64) ++ [Value.int .i64 x] = (l ++ [x]).map (Value.int .i64)
  rw [List.map_append]; rfl
def DvP (w : World) (N : TypeId) (D : Sd) (b : Bool) : Asrt := fun v w' => ∃ u, v = .tuple #[.agg (ssArr u D.lost D.hops D.work), .bool b] ∧ Owns w' w.heap.size N 1 u D.hosts.length (intC D.hosts)
theorem dv_no {w w' : World} {N : TypeId} {t : List Tg} {p : Pk} (h : delB t p = false) (s : St w [] w') : DvP w N (delD t p) (delB t p) (.tuple #[.agg (ssArr nilV 0 0 0), .bool false]) w' := by
  unfold delD; rw [h]
  exact ⟨nilV, rfl, (s.nilSl N 1).getSl 0 rfl⟩
theorem dv_ok {w w' : World} {N : TypeId} {t : List Tg} {p : Pk} {c : Cn} {u : Value} (h : c = full t p ∧ delB t p = true) (s : Owns w' w.heap.size N 1 u (hostK c 16).length (intC (hostK c 16))) : DvP w N (delD t p) (delB t p) (.tuple #[.agg (ssArr u (c.lost : Int) (c.hops : Int) (c.work : Int)), .bool true]) w' := by
  obtain ⟨rfl, h⟩ := h
  unfold delD; rw [h]
  exact ⟨u, rfl, s⟩
theorem one_cell {v : Value} (h : v.oneCell' = true) : v.cells.size = 1 ∧ v.cells.toList = [v] := by cases v <;> first | exact ⟨rfl, rfl⟩ | cases h
theorem len_one (l : List Int) (x : Int) : l.length + 1 = (l ++ [x]).length := by rw [List.length_append]; rfl
end Go.Proofs.Ytdehanjhphfanaa

namespace Go.Proofs.Ytdehanjhphfanaa
open Go.RowKit
/-! ### what the package answers -/
noncomputable def spE (t : List Tg) (p : Pk) : Int := bif rightT t && rightP p then (bif delB t p then 0 else 8) else 1
noncomputable def spD (t : List Tg) (p : Pk) : Sd := bif rightT t && rightP p then delD t p else zSd
def slE (t : List Tg) : Int := bif rightT t then 0 else 1
def slL (t : List Tg) : List Lnk := bif rightT t then lnkT t else []
def SpP (w : World) (D : Sd) (E : Int) : Asrt := fun v w' => ∃ u ks, v = .tuple #[.agg (ssArr u D.lost D.hops D.work), .int .i64 E] ∧ St w [.grp ks fun w9 => RdZ w9 u 1 D.hosts.length (intC D.hosts)] w'
def SlP (w : World) (L : List Lnk) (E : Int) : Asrt := fun v w' => ∃ u ks, v = .tuple #[u, .int .i64 E] ∧ St w [.grp ks fun w9 => RdZ w9 u 64 L.length (lCells L)] w'
theorem sp_ok {t : List Tg} {p : Pk} (h : rightT t = true) (h2 : rightP p = true) : spE t p = (bif delB t p then 0 else 8) ∧ spD t p = delD t p := by unfold spE spD; rw [h, h2]; exact ⟨rfl, rfl⟩
theorem sp_n0 {t : List Tg} (p : Pk) (h : rightT t = false) : spE t p = 1 ∧ spD t p = zSd := by unfold spE spD; rw [h]; exact ⟨rfl, rfl⟩
theorem sp_n1 (t : List Tg) {p : Pk} (h : rightP p = false) : spE t p = 1 ∧ spD t p = zSd := by unfold spE spD; rw [h, Bool.and_false]; exact ⟨rfl, rfl⟩
theorem sl_y {t : List Tg} (h : rightT t = true) : slE t = 0 ∧ slL t = lnkT t := by unfold slE slL; rw [h]; exact ⟨rfl, rfl⟩
theorem sl_n {t : List Tg} (h : rightT t = false) : slE t = 1 ∧ slL t = [] := by unfold slE slL; rw [h]; exact ⟨rfl, rfl⟩
theorem lnk_le (t : List Tg) : (lnkT t).length ≤ t.length := by unfold lnkT; rw [List.length_map]; exact List.length_filter_le _ _
theorem del_no {t : List Tg} {p : Pk} (h : delB t p = false) : delD t p = zSd := by unfold delD; rw [h]; rfl
theorem del_len {t : List Tg} {p : Pk} (h : 0 ≤ p.2.1) : (delD t p).hosts.length ≤ 16016 := by
  cases hb : delB t p with
  | false => rw [del_no hb]; exact Nat.zero_le _
  | true =>
    have hw : ¬ 1000 < (goF t (p.2.1.toNat + 1) .zero p).work := fun h9 => by have := (go_full h).1 h9; rw [hb] at this; cases this
    have hf := ((go_full h).2 hw).1
    have hc : COk (full t p) := by rw [← hf]; exact go_ok _ _ _ zero_ok
    have : delD t p = ⟨hostsL (full t p), (full t p).lost, (full t p).hops, (full t p).work⟩ := by unfold delD; rw [hb]; rfl
    rw [this]
    exact hostK_le hc 16
theorem sp_len {t : List Tg} {p : Pk} : (spD t p).hosts.length ≤ 16016 := by
  cases h : rightP p with
  | false => rw [(sp_n1 t h).2]; exact Nat.zero_le _
  | true =>
    cases h2 : rightT t with
    | false => rw [(sp_n0 p h2).2]; exact Nat.zero_le _
    | true => rw [(sp_ok h2 h).2]; exact del_len (rightP_iff.1 h).2.1
def pkJ : Pk := ([(2, 0#256, 3)], 0, ByteArray.empty)
theorem pkJ_right : rightP pkJ = true := by rw [rightP_iff]; refine ⟨⟨by decide, by decide, fun e he => ?_⟩, by decide, by decide, by decide⟩; rw [List.mem_singleton.1 he]; rfl
theorem pkJ_is : spE [] pkJ = 0 ∧ spD [] pkJ = ⟨[3], 0, 0, 1⟩ := by
  obtain ⟨h1, h2⟩ := sp_ok rt0 pkJ_right
  have hf : full [] pkJ = ⟨fun k => if k = 3 then 1 else 0, 0, 0, 1⟩ := by
    rw [full_is (by decide), step_host (by decide)]
    show wkC.add ((⟨fun k => if k = 3 then 1 else 0, 0, 0, 0⟩ : Cn).add .zero) = _
    unfold wkC Cn.add Cn.zero
    simp
  have hb : delB [] pkJ = true := by unfold delB; rw [hf]; rfl
  have hd : delD [] pkJ = ⟨[3], 0, 0, 1⟩ := by unfold delD; rw [hb, hf]; rfl
  rw [h1, h2, hb, hd]; exact ⟨rfl, rfl⟩
end Go.Proofs.Ytdehanjhphfanaa

namespace Go.Proofs.Ytdehanjhphfanaa
open Go.RowKit
/-! ### the four laws' facts -/
theorem sp_0 {t : List Tg} {p : Pk} (h : spE t p = 0) : rightT t = true ∧ rightP p = true ∧ delB t p = true ∧ spD t p = delD t p := by
  cases ht : rightT t with
  | false => rw [(sp_n0 p ht).1] at h; cases h
  | true =>
    cases hp : rightP p with
    | false => rw [(sp_n1 t hp).1] at h; cases h
    | true =>
      have h9 := sp_ok ht hp
      cases hd : delB t p with
      | false => rw [h9.1, hd] at h; cases h
      | true => exact ⟨rfl, rfl, rfl, h9.2⟩
theorem sp_no {t : List Tg} {p : Pk} (h : spE t p ≠ 0) : spD t p = zSd := by
  cases ht : rightT t with
  | false => exact (sp_n0 p ht).2
  | true =>
    cases hp : rightP p with
    | false => exact (sp_n1 t hp).2
    | true =>
      have h9 := sp_ok ht hp
      cases hd : delB t p with
      | false => rw [h9.2]; exact del_no hd
      | true => rw [h9.1, hd] at h; exact absurd rfl h
theorem del_y {t : List Tg} {p : Pk} (h : delB t p = true) : delD t p = ⟨hostsL (full t p), (full t p).lost, (full t p).hops, (full t p).work⟩ := by unfold delD; rw [h]; rfl
/-! none dead by hops; more hops -/
theorem sp_hnn (t : List Tg) (p : Pk) : 0 ≤ (spD t p).hops ∧ 0 ≤ (spD t p).work := by
  by_cases h : spE t p = 0
  · obtain ⟨_, _, g3, g4⟩ := sp_0 h
    rw [g4, del_y g3]
    exact ⟨Int.natCast_nonneg _, Int.natCast_nonneg _⟩
  · rw [sp_no h]; exact ⟨by decide, by decide⟩
/-! without the first entry -/
theorem sp_part {t : List Tg} {p : Pk} (h0 : spE t p = 0) (h1 : p.2.1 ≠ 0) (h2 : 1 < p.1.length) (h3 : (fstE p).1 = 1) (h4 : mtE t (fstE p).2.1 = 6) : spE t (p.1.drop 1, p.2.1 - 1, p.2.2) = 0 ∧ spD t p = ⟨(spD t (p.1.drop 1, p.2.1 - 1, p.2.2)).hosts, (spD t (p.1.drop 1, p.2.1 - 1, p.2.2)).lost, (spD t (p.1.drop 1, p.2.1 - 1, p.2.2)).hops, (spD t (p.1.drop 1, p.2.1 - 1, p.2.2)).work + 1⟩ := by
  obtain ⟨g1, g2, g3, g4⟩ := sp_0 h0
  obtain ⟨⟨a1, a2, a3⟩, r2, r3, r4⟩ := rightP_iff.1 g2
  have hz : mtF t (fstE p).2.1 = [] := by
    rw [(tm_y g1 _).1] at h4
    by_cases hl : (mtF t (fstE p).2.1).length = 0
    · exact List.eq_nil_of_length_eq_zero hl
    · rw [decide_eq_false hl] at h4; cases h4
  have hq : rightP (p.1.drop 1, p.2.1 - 1, p.2.2) = true := rightP_iff.2 ⟨⟨by show 1 ≤ (p.1.drop 1).length; rw [List.length_drop]; omega, by show (p.1.drop 1).length ≤ 4; rw [List.length_drop]; omega, fun e he => a3 e (List.mem_of_mem_drop he)⟩, by show 0 ≤ p.2.1 - 1; omega, by show p.2.1 - 1 ≤ 64; omega, r4⟩
  have hf : full t p = wkC.add (full t (p.1.drop 1, p.2.1 - 1, p.2.2)) := by
    show spr t (p.2.1.toNat + 1) p = _
    rw [spr_part _ h3 h1 hz h2]
    congr 1
    exact full_at (by show 0 ≤ p.2.1 - 1; omega) (by show p.2.1 - 1 < (p.2.1.toNat : Int); omega)
  have hw : (full t p).work ≤ 1000 := by unfold delB at g3; exact of_decide_eq_true g3
  have hwk : (full t p).work = 1 + (full t (p.1.drop 1, p.2.1 - 1, p.2.2)).work := by rw [hf]; rfl
  have hd : delB t (p.1.drop 1, p.2.1 - 1, p.2.2) = true := by unfold delB; exact decide_eq_true (by omega)
  have h9 := sp_ok g1 hq
  rw [h9.1, h9.2, hd, g4, del_y g3, del_y hd, hf]
  refine ⟨rfl, ?_⟩
  have ha : wkC.add (full t (p.1.drop 1, p.2.1 - 1, p.2.2)) = ⟨(full t (p.1.drop 1, p.2.1 - 1, p.2.2)).hs, (full t (p.1.drop 1, p.2.1 - 1, p.2.2)).lost, (full t (p.1.drop 1, p.2.1 - 1, p.2.2)).hops, 1 + (full t (p.1.drop 1, p.2.1 - 1, p.2.2)).work⟩ := by
    unfold wkC Cn.add; simp
  rw [ha]
  unfold hostsL
  simp only [Sd.mk.injEq, true_and]
  omega
/-! one more trigger -/
theorem sp_wk (t : List Tg) (p : Pk) : (spD t p).work ≤ 1000 := by
  by_cases h : spE t p = 0
  · obtain ⟨_, _, g3, g4⟩ := sp_0 h
    rw [g4, del_y g3]
    have : (full t p).work ≤ 1000 := by unfold delB at g3; exact of_decide_eq_true g3
    show (((full t p).work : Nat) : Int) ≤ 1000
    omega
  · rw [sp_no h]; show (0 : Int) ≤ 1000; decide
section
variable {P : Program} {ρ : Operand → Value} {d : Option Tmp} {ty : TypeId} {pos : String} {af : Array Edge} {g : Option (Nat × Bool)} {x y z : Operand} {t : TypeId}
end
/-! two links -/
end Go.Proofs.Ytdehanjhphfanaa

namespace Go.Proofs.Ytdehanjhphfanaa
open Go.RowKit
/-! ### a slice of the call's own that does not begin at its block's head -/
def Tails (w : World) (base : Nat) (e : TypeId) (sz : Nat) (v : Value) (n : Nat) (xs : List Value) : Prop :=
  xs.length = n * sz ∧
  ((v = .slice none 0 0 ∧ n = 0) ∨
   ∃ g o cap cur fz, v = .slice (some ⟨g, o, none⟩) n cap ∧ base ≤ g ∧ w.heap[g]? = some (.cells cur e fz) ∧ (fz.2 = 0 ∨ cur.size ≤ fz.1) ∧ n ≤ cap ∧ cap ≤ maxLen ∧ o + cap * sz ≤ cur.size ∧ (cur.toList.drop o).take (n * sz) = xs)
theorem Tails.of_owns {w : World} {base : Nat} {e : TypeId} {sz : Nat} {v : Value} {n : Nat} {xs : List Value} (h : Owns w base e sz v n xs) : Tails w base e sz v n xs := by
  refine ⟨h.1, h.2.imp id ?_⟩
  rintro ⟨g, cap, cur, fz, hv, hb, hg, hz, hn, hc, hs, ht⟩
  exact ⟨g, 0, cap, cur, fz, hv, hb, hg, hz, hn, hc, by omega, by simpa using ht⟩
theorem Tails.rd {w : World} {base : Nat} {e : TypeId} {sz : Nat} {v : Value} {n : Nat} {xs : List Value} (h : Tails w base e sz v n xs) : RdZ w v sz n xs := by
  refine ⟨h.1, h.2.imp id ?_⟩
  rintro ⟨g, o, cap, cur, fz, hv, hb, hg, hz, hn, hc, hs, ht⟩
  refine ⟨⟨g, o, none⟩, cap, hv, hn, fun j x hx => ?_⟩
  have hadd : (⟨g, o, none⟩ : Addr).add j = ⟨g, o + j, none⟩ := by unfold Addr.add; split <;> simp_all
  rw [List.getElem?_toArray] at hx
  rw [hadd, cell_of_row w g (o + j) cur e fz hg]
  rw [← ht, List.getElem?_take] at hx
  split at hx
  · rw [List.getElem?_drop] at hx; simpa using hx
  · cases hx
theorem Tails.at {w w' : World} {base : Nat} {e : TypeId} {sz : Nat} {v : Value} {n : Nat} {xs : List Value} (h : Tails w base e sz v n xs) (hk : ∀ k ∈ v.ownBlock.toList, w'.heap[k]? = w.heap[k]?) : Tails w' base e sz v n xs := by
  refine ⟨h.1, h.2.imp id ?_⟩
  rintro ⟨g, o, cap, cur, fz, hv, hb, hg, r⟩
  exact ⟨g, o, cap, cur, fz, hv, hb, by rw [hk g (by rw [hv]; simp [Value.ownBlock])]; exact hg, r⟩
theorem drop_block (v : Value) (sz k : Nat) : (dropV v sz k).ownBlock = v.ownBlock := by
  unfold dropV
  split
  · next a n c =>
    cases a with
    | none => split <;> rfl
    | some p =>
      split
      · rfl
      · show some (p.add (k * sz)).block = some p.block
        rw [add_block]
  · rfl
theorem Tails.drop {w : World} {base : Nat} {e : TypeId} {sz : Nat} {v : Value} {n : Nat} {xs : List Value} (h : Tails w base e sz v n xs) (k : Nat) (hk : k ≤ n) : Tails w base e sz (dropV v sz k) (n - k) (xs.drop (k * sz)) := by
  refine ⟨by rw [List.length_drop, h.1, Nat.sub_mul], ?_⟩
  rcases h.2 with ⟨rfl, rfl⟩ | ⟨g, o, cap, cur, fz, rfl, hb, hg, hz, hn, hc, hs, ht⟩
  · obtain rfl : k = 0 := by omega
    exact .inl ⟨rfl, rfl⟩
  · right
    have hmul : k * sz ≤ cap * sz := Nat.mul_le_mul_right _ (by omega)
    by_cases hck : cap = k
    · refine ⟨g, o, cap - k, cur, fz, by simp [dropV, hck], hb, hg, hz, by omega, by omega, ?_, ?_⟩
      · rw [Nat.sub_mul]; omega
      · obtain rfl : n = k := by omega
        rw [Nat.sub_self, Nat.zero_mul, List.take_zero, ← h.1, List.drop_length]
    · have hadd : (⟨g, o, none⟩ : Addr).add (k * sz) = ⟨g, o + k * sz, none⟩ := by unfold Addr.add; split <;> simp_all
      refine ⟨g, o + k * sz, cap - k, cur, fz, by simp [dropV, hck, hadd], hb, hg, hz, by omega, by omega, ?_, ?_⟩
      · rw [Nat.sub_mul]; omega
      · rw [← ht, List.drop_take, List.drop_drop, Nat.sub_mul]
/-- as what is owned -/
def tlO (base : Nat) (v : Value) (e : TypeId) (sz n : Nat) (xs : List Value) : Own := .grp v.ownBlock.toList fun w9 => Tails w9 base e sz v n xs
theorem tl_holds {w0 w : World} {base : Nat} {v : Value} {e : TypeId} {sz n : Nat} {xs : List Value} (h : Tails w base e sz v n xs) : (tlO base v e sz n xs).holds w0 w := by
  refine ⟨fun k hk => ?_, fun w' hw => h.at hw⟩
  rcases h.2 with ⟨rfl, _⟩ | ⟨g, o, cap, cur, fz, rfl, _, hg, _⟩
  · simp [Value.ownBlock] at hk
  · simp [Value.ownBlock] at hk
    subst hk
    exact (Array.getElem?_eq_some_iff.1 hg).1
theorem tl_at {base : Nat} {v : Value} {e : TypeId} {sz n : Nat} {xs : List Value} {k : Nat} : (tlO base v e sz n xs).at k ↔ v.ownBlock = some k := by
  show k ∈ v.ownBlock.toList ↔ _
  simp
theorem St.tails {w0 w : World} {B : List Own} {base : Nat} {v : Value} {e : TypeId} {sz n : Nat} {xs : List Value} (s : St w0 B w) (i : Nat) (hi : B[i]? = some (tlO base v e sz n xs)) : Tails w base e sz v n xs :=
  (s.has _ (List.mem_of_getElem? hi)).2 w fun _ _ => rfl
/-- what is owned is said otherwise -/
theorem St.said {w0 w : World} {B : List Own} (s : St w0 B w) (i : Nat) {p q : Own} (hi : B[i]? = some p) (hold : q.holds w0 w) (hk : ∀ k, q.at k → p.at k) : St w0 (B.set i q) w :=
  s.upd i hi rfl rfl rfl (Nat.le_refl _) hold (fun k h => .inl (hk k h)) fun _ _ _ => rfl
theorem St.tail {w0 w : World} {B : List Own} {v : Value} {e : TypeId} {sz n : Nat} {xs : List Value} (s : St w0 B w) (i : Nat) (hi : B[i]? = some (.sl v e sz n xs)) : St w0 (B.set i (tlO w0.heap.size v e sz n xs)) w :=
  s.said i hi (tl_holds (.of_owns (s.getSl i hi))) fun k h => Own.at_sl.2 (tl_at.1 h)
theorem St.tdrop {w0 w : World} {B : List Own} {base : Nat} {v : Value} {e : TypeId} {sz n : Nat} {xs : List Value} (s : St w0 B w) (i : Nat) (hi : B[i]? = some (tlO base v e sz n xs)) (k : Nat) (hk : k ≤ n) : St w0 (B.set i (tlO base (dropV v sz k) e sz (n - k) (xs.drop (k * sz)))) w :=
  s.said i hi (tl_holds ((s.tails i hi).drop k hk)) fun j h => tl_at.2 (by rw [← drop_block v sz k]; exact tl_at.1 h)
theorem St.retl {w0 w : World} {B : List Own} {base : Nat} {v : Value} {e : TypeId} {sz n m : Nat} {xs ys : List Value} (s : St w0 B w) (i : Nat) (hi : B[i]? = some (tlO base v e sz n xs)) (hn : n = m) (hx : xs = ys) : St w0 (B.set i (tlO base v e sz m ys)) w := by
  subst hn; subst hx; exact s.said i hi (tl_holds (s.tails i hi)) fun _ h => h
theorem run_append_roomO {P : Program} (w : World) (t ty e : TypeId) (i : TypeInfo) (ht : P.underlying t = some (.slice e)) (hi : P.info? e = some i)
    (g o sLen sCap : Nat) (cur : Array Value) (fz : Nat × Nat) (hg : w.heap[g]? = some (.cells cur e fz)) (hz : fz.2 = 0 ∨ cur.size ≤ fz.1)
    (a : Addr) (m c : Nat) (news : List Value) (hl : news.length = m * i.size) (hnews : ∀ j u, news[j]? = some u → w.cell? (a.add j) = some u) (h1 : ∀ u ∈ news, u.oneCell' = true)
    (hroom : sLen + m ≤ sCap) (hfit : o + sLen * i.size + news.length ≤ cur.size) :
    (Builtin.append_ #[t, t] ty #[.slice (some ⟨g, o, none⟩) sLen sCap, .slice (some a) m c]).run P w =
      .ok (.slice (some ⟨g, o, none⟩) (sLen + m) sCap) (w.setRow g (cur.toList.take (o + sLen * i.size) ++ news ++ cur.toList.drop (o + sLen * i.size + news.length)).toArray) := by
  have hf := run_firstCells_some (P := P) w i.size m a m c news hl hnews
  have hst := run_storeCells_atG P g (o + sLen * i.size) e fz news 0 cur w hg hz (by simpa using hfit) h1
  simp only [Nat.add_zero] at hst
  have hadd : (⟨g, o, none⟩ : Addr).add (sLen * i.size) = ⟨g, o + sLen * i.size, none⟩ := by unfold Addr.add; split <;> simp_all
  simp [Builtin.append_, run_underlying ht, sizeOf, typeInfo, hi, Builtin.lenOf, hroom, hf, hadd, hst]
theorem run_append_tl {P : Program} {w : World} {base : Nat} {t ty e : TypeId} {sz by_ : Nat} (ht : P.underlying t = some (.slice e)) (E : Elm P e sz by_) {v : Value} {n : Nat} {xs : List Value} (hown : Tails w base e sz v n xs)
    {a : Addr} {m c : Nat} {news : List Value} (hl : news.length = m * sz) (hnews : ∀ (j : Nat) u, news[j]? = some u → w.cell? (a.add j) = some u) (h1 : ∀ u ∈ news, u.oneCell' = true) (hm : 1 ≤ m)
    (h63 : n + m ≤ maxLen) (hbytes : (n + m) * by_ ≤ 140737488355328) (hbase : base ≤ w.heap.size) :
    ∃ v' w', (Builtin.append_ #[t, t] ty #[v, .slice (some a) m c]).run P w = .ok v' w' ∧ Tails w' base e sz v' (n + m) (xs ++ news) ∧ Grw w w' v.ownBlock ∧ (v'.ownBlock = v.ownBlock ∨ v'.ownBlock = some w.heap.size) := by
  obtain ⟨i, z, hi, hz, rfl, rfl, hzs⟩ := E.info
  have hsmall : n + m ≤ 9223372036854775807 := by simp only [maxLen] at h63; omega
  have hlen : (xs ++ news).length = (n + m) * i.size := by rw [List.length_append, hown.1, hl, Nat.add_mul]
  have hnew : ∀ (cap : Nat) (rest : Array Value), n + m ≤ cap → cap ≤ maxLen → rest.size = (cap - (n + m)) * i.size → Tails (w.drew.alloc (.cells (xs.toArray ++ news.toArray ++ rest) e)) base e i.size (.slice (some ⟨w.heap.size, 0, none⟩) (n + m) cap) (n + m) (xs ++ news) := fun cap rest h2 h3 h4 => by
    refine ⟨hlen, .inr ⟨w.heap.size, 0, cap, _, (0, 0), rfl, hbase, heap_alloc_new w.drew _, .inl rfl, h2, h3, ?_, ?_⟩⟩
    · rw [Array.size_append, Array.size_append, List.size_toArray, List.size_toArray, hown.1, hl, h4, ← Nat.add_mul, ← Nat.add_mul, Nat.zero_add]
      exact Nat.mul_le_mul_right _ (by omega)
    · rw [Array.toList_append, Array.toList_append, ← hlen, List.drop_zero]; exact List.take_left
  have hgrow : ∀ (o : Obj) (row : Option Nat), Grw w (w.drew.alloc o) row := fun o row => ⟨⟨rfl, rfl, rfl, by simp, fun k hk _ => Below.heap_alloc w.drew _ k hk⟩, Nat.le_succ _⟩
  have hrest : ∀ old, (Builtin.zeroCells z.cells (grownCap w (n + m) old e - (n + m))).size = (grownCap w (n + m) old e - (n + m)) * i.size := fun old => by rw [size_zeroCells, hzs]
  rcases hown.2 with ⟨rfl, rfl⟩ | ⟨g, o, cap, cur, fz, rfl, hbg, hg, hfz, hnc, hcm, hcs, htake⟩
  · have hx : xs = [] := List.eq_nil_of_length_eq_zero (by simpa using hown.1)
    subst hx
    have hr := run_append_nil (P := P) w t ty e i z ht hi hz a m c news hl hnews (by omega) (by omega) (by have hb := hbytes; simp only [Nat.zero_add] at hb; omega)
    have h9 := hnew (grownCap w (0 + m) 0 e) _ (grownCap_ge w _ 0 e) (grownCap_le_maxLen w _ 0 e h63) (hrest 0)
    simp only [Nat.zero_add, List.nil_append, Array.empty_append] at h9 hr ⊢
    exact ⟨_, _, hr, h9, hgrow _ _, .inr rfl⟩
  · by_cases hroom : n + m ≤ cap
    · have hfit : o + n * i.size + news.length ≤ cur.size := by
        have := Nat.mul_le_mul_right i.size hroom
        rw [Nat.add_mul] at this
        rw [hl]; omega
      have hr := run_append_roomO (P := P) w t ty e i ht hi g o n cap cur fz hg hfz a m c news hl hnews h1 hroom hfit
      have hsz : (cur.toList.take (o + n * i.size) ++ news ++ cur.toList.drop (o + n * i.size + news.length)).length = cur.size := by
        simp only [List.length_append, List.length_take, List.length_drop, Array.length_toList]
        omega
      refine ⟨_, _, hr, ⟨hlen, .inr ⟨g, o, cap, _, fz, rfl, hbg, setRow_heap w g cur _ e _ hg, ?_, hroom, hcm, ?_, ?_⟩⟩, ⟨⟨rfl, rfl, rfl, by simp, fun k _ hk => setRow_other w g k _ (fun e => hk (by simp [Value.ownBlock, e]))⟩, Nat.le_refl _⟩, .inl rfl⟩
      · refine hfz.imp id fun h9 => ?_
        rw [List.size_toArray, hsz]; exact h9
      · rw [List.size_toArray, hsz]; exact hcs
      · show (List.drop o (cur.toList.take (o + n * i.size) ++ news ++ cur.toList.drop (o + n * i.size + news.length))).take _ = _
        have hol : o ≤ (cur.toList.take (o + n * i.size)).length := by
          rw [List.length_take, Array.length_toList]; omega
        rw [List.append_assoc, List.drop_append_of_le_length hol, List.drop_take, Nat.add_sub_cancel_left, htake, ← List.append_assoc, ← hlen]
        exact List.take_left
    · have hcells : ∀ (j : Nat) u, xs[j]? = some u → w.cell? ((⟨g, o, none⟩ : Addr).add j) = some u := fun j u hu => by
        obtain h9 := hown.rd.2
        rcases h9 with ⟨h9, _⟩ | ⟨p, c9, h9, _, hc9⟩
        · cases h9
        · cases h9; exact hc9 j u (by simpa using hu)
      have hr := run_append_grow (P := P) w t ty e i z ht hi hz ⟨g, o, none⟩ n cap xs hown.1 hcells a m c news hl hnews (by omega) (by omega) (growslice_fits (by omega) hbytes)
      exact ⟨_, _, hr, hnew _ _ (grownCap_ge w _ cap e) (grownCap_le_maxLen w _ cap e h63) (hrest cap), hgrow _ _, .inr rfl⟩
section
variable {ro : Option Nat} {P : Program} {ops : Array Oper} {Q : Act → World → Prop} {l : List Oper} {a : Act} {w w0 : World} {N : Nat} {L : List (Nat × Value)} {Df : List Deferred} {B : List Own} {d : Tmp} {ty : TypeId} {pos : String} {af : Array Edge} {x y : Operand} {t e : TypeId}
theorem s_append_tl {v v2 : Value} {base sz by_ n m : Nat} {xs ys : List Value} (i j : Nat) (h : Sl N a L Df) (s : St w0 B w) (ht : P.underlying t = some (.slice e)) (E : Elm P e sz by_) (hx : evo L x = some v) (hy : evo L y = some v2)
    (hi : B[i]? = some (tlO base v e sz n xs)) (hj : B[j]? = some (.sl v2 e sz m ys)) (hm : 1 ≤ m) (h1 : ∀ u ∈ ys, u.oneCell' = true) (h63 : n + m ≤ maxLen) (hbytes : (n + m) * by_ ≤ 140737488355328) (hbase : base ≤ w.heap.size) (hd : Nat.blt d N = true)
    (k : ∀ a' w' v', Sl N a' ((d, v') :: L) Df → St w0 (B.set i (tlO base v' e sz (n + m) (xs ++ ys))) w' → Lst P ops Q l a' w') :
    Lst P ops Q (⟨some d, .call { callee := .builtin .append, args := #[x, y], argTypes := #[t, t] }, ty, pos, af, none⟩ :: l) a w := by
  have hv := s.tails i hi
  have hv2 := s.getSl j hj
  obtain ⟨g2, c2, rfl⟩ := ownsRow_addr hv2 hm
  obtain ⟨v', w', hr, h2, h3, h4⟩ := run_append_tl (ty := ty) ht E hv (a := ⟨g2, 0, none⟩) (m := m) (c := c2) (news := ys) hv2.1 (hv2.cells (g := g2) rfl) h1 hm h63 hbytes hbase
  refine s_does (R := fun u w'' => u = v' ∧ w'' = w') h (by
    unfold Does
    simp only [execOp, resolve, invoke, builtin, Sem.run_bind, Sem.run_pure, Result.andThen_ok, List.map_toArray, List.map_cons, List.map_nil, h.ev hx, h.ev hy, hr]
    first | exact ⟨rfl, rfl⟩ | exact ⟨trivial, rfl⟩ | exact ⟨trivial, trivial⟩ | trivial) hd fun a' w'' u ⟨e1, e2⟩ hs => ?_
  subst e1; subst e2
  refine k _ _ _ hs (s.upd i hi h3.os h3.tape h3.output h3.size (tl_holds h2) (fun k hk => ?_) (fun k hk hne => ?_) h3.drawn)
  · rcases h4 with h4 | h4
    · exact .inl (tl_at.2 (by rw [← tl_at.1 hk]; exact h4.symm))
    · right
      have : u.ownBlock = some k := tl_at.1 hk
      rw [h4] at this; cases this; exact Nat.le_refl _
  · exact h3.block k hk fun e => hne (tl_at.2 e.symm)
end
/-! ### copy, to a part of an own slice whose elements are of one cell -/
theorem run_copy_nil {P : Program} {w : World} {t t' ty e : TypeId} {u : Value} {c m : Nat} {ys : List Value} (ht : P.underlying t = some (.slice e)) (he : (P.info? e).map (·.size) = some 1) (hR : RdZ w u 1 m ys) (a : Option Addr) :
    (Builtin.copy_ #[t, t'] ty #[.slice a 0 c, u]).run P w = .ok (.int .i64 ((0 : Nat) : Int)) w := by
  obtain ⟨b, d, rfl⟩ := hR.len
  cases a <;> cases b <;> simp [Builtin.copy_, run_underlying ht, run_sizeOf he, Sem.run_bind, Builtin.lenOf, Builtin.firstCells, loadCells, loadCellsFrom, storeCells, goInt]
theorem run_copy_some {P : Program} {w : World} {t t' ty e : TypeId} {g o dl dc m : Nat} {u : Value} {ys : List Value} {cur : Array Value} {fz : Nat × Nat} (q : Nat) (ht : P.underlying t = some (.slice e)) (he : (P.info? e).map (·.size) = some 1) (hR : RdZ w u 1 m ys) (hm : 1 ≤ m) (hq : q = min m dl)
    (hg : w.heap[g]? = some (.cells cur e fz)) (hz : fz.2 = 0 ∨ cur.size ≤ fz.1) (h1 : ∀ x ∈ ys, x.oneCell' = true) (hfit : o + q ≤ cur.size) :
    (Builtin.copy_ #[t, t'] ty #[.slice (some ⟨g, o, none⟩) dl dc, u]).run P w = .ok (.int .i64 (q : Int)) (w.setRow g (cur.toList.take o ++ ys.take q ++ cur.toList.drop (o + q)).toArray) := by
  rcases hR.2 with ⟨_, h0⟩ | ⟨p, c, rfl, _, hH⟩
  · omega
  · have hl : (ys.take q).length = q * 1 := by rw [List.length_take, hR.1]; omega
    have hf := run_firstCells_some (P := P) w 1 q p m c (ys.take q) hl (fun j v hv => hH j v (by
      rw [List.getElem?_take] at hv
      split at hv
      · simpa using hv
      · cases hv))
    have hst := run_storeCells_atG P g o e fz (ys.take q) 0 cur w hg hz (by rw [hl]; omega) (fun x hx => h1 x (List.mem_of_mem_take hx))
    rw [Nat.add_zero, hl, Nat.mul_one] at hst
    have hmin : Nat.min m dl = q := hq.symm
    simp [Builtin.copy_, run_underlying ht, run_sizeOf he, Sem.run_bind, Builtin.lenOf, hmin, hf, hst, goInt]
section
variable {ro : Option Nat} {P : Program} {ops : Array Oper} {Q : Act → World → Prop} {l : List Oper} {a : Act} {w w0 : World} {N : Nat} {L : List (Nat × Value)} {Df : List Deferred} {B : List Own} {d : Tmp} {ty : TypeId} {pos : String} {af : Array Edge} {x y : Operand} {t t' e : TypeId}
theorem s_copy_own {v u : Value} {n m k : Nat} {xs ys : List Value} (i q : Nat) (hR : RdZ w u 1 m ys) (h : Sl N a L Df) (s : St w0 B w) (ht : P.underlying t = some (.slice e)) (he : (P.info? e).map (·.size) = some 1) (hx : evo L x = some (dropV v 1 k)) (hy : evo L y = some u)
    (hi : B[i]? = some (.sl v e 1 n xs)) (hk : k ≤ n) (hq : q = min m (n - k)) (h1 : ∀ x ∈ ys, x.oneCell' = true) (hd : Nat.blt d N = true)
    (kk : ∀ a' w', Sl N a' ((d, .int .i64 (q : Int)) :: L) Df → St w0 (B.set i (.sl v e 1 n (xs.take k ++ ys.take q ++ xs.drop (k + q)))) w' → Lst P ops Q l a' w') :
    Lst P ops Q (⟨some d, .call { callee := .builtin .copy, args := #[x, y], argTypes := #[t, t'] }, ty, pos, af, none⟩ :: l) a w := by
  have hv := s.getSl i hi
  have hxl : xs.length = n := by have := hv.1; omega
  have go : ∀ (w9 : World) (X : Value), dropV v 1 k = X → (Builtin.copy_ #[t, t'] ty #[X, u]).run P w = .ok (.int .i64 (q : Int)) w9 → St w0 (B.set i (.sl v e 1 n (xs.take k ++ ys.take q ++ xs.drop (k + q)))) w9 →
      Lst P ops Q (⟨some d, .call { callee := .builtin .copy, args := #[x, y], argTypes := #[t, t'] }, ty, pos, af, none⟩ :: l) a w := fun w9 X hX hr hs9 => by
    rw [hX] at hx
    refine s_does (R := fun u w'' => u = .int .i64 (q : Int) ∧ w'' = w9) h (by
      unfold Does
      simp only [execOp, resolve, invoke, builtin, Sem.run_bind, Sem.run_pure, Result.andThen_ok, List.map_toArray, List.map_cons, List.map_nil, h.ev hx, h.ev hy, hr]
      first | exact ⟨rfl, rfl⟩ | exact ⟨trivial, rfl⟩ | exact ⟨trivial, trivial⟩ | trivial) hd fun a' w'' u ⟨e1, e2⟩ hs => ?_
    subst e1; subst e2
    exact kk _ _ hs hs9
  have same : q = 0 → St w0 (B.set i (.sl v e 1 n (xs.take k ++ ys.take q ++ xs.drop (k + q)))) w := fun h0 => by
    subst h0
    rw [List.take_zero, List.append_nil, Nat.add_zero, List.take_append_drop]
    exact s.said i hi hv fun _ h => h
  rcases hv.2 with ⟨rfl, rfl⟩ | ⟨g, cap, cur, fz, rfl, hbg, hg, hz, hnc, hcm, hcs, htk⟩
  · obtain rfl : k = 0 := by omega
    have q0 : q = 0 := by omega
    refine go w (.slice none 0 0) rfl ?_ (same q0)
    rw [q0]; exact run_copy_nil ht he hR none
  · by_cases h0 : q = 0
    · refine go w (dropV (.slice (some ⟨g, 0, none⟩) n cap) 1 k) rfl ?_ (same h0)
      have hd9 : dropV (.slice (some ⟨g, 0, none⟩) n cap) 1 k = .slice (if cap = k then some ⟨g, 0, none⟩ else (some ⟨g, 0, none⟩ : Option Addr).map (·.add (k * 1))) (n - k) (cap - k) := rfl
      rw [hd9]
      by_cases hnk : n - k = 0
      · rw [hnk, h0]; exact run_copy_nil ht he hR _
      · have hm0 : m = 0 := by omega
        subst hm0
        have hy0 : ys = [] := List.eq_nil_of_length_eq_zero (by have := hR.1; omega)
        subst hy0
        rw [h0]
        obtain ⟨b, c9, rfl⟩ := hR.len
        by_cases hck : cap = k
        · omega
        · rw [if_neg hck]
          cases b <;> simp [Builtin.copy_, run_underlying ht, run_sizeOf he, Sem.run_bind, Builtin.lenOf, Builtin.firstCells, loadCells, loadCellsFrom, storeCells, goInt]
    · have hck : cap ≠ k := by omega
      have hadd : (⟨g, 0, none⟩ : Addr).add (k * 1) = ⟨g, k, none⟩ := by unfold Addr.add; split <;> simp_all
      have hX : dropV (.slice (some ⟨g, 0, none⟩) n cap) 1 k = .slice (some ⟨g, k, none⟩) (n - k) (cap - k) := by
        show Value.slice (if cap = k then _ else _) _ _ = _
        rw [if_neg hck]
        show Value.slice (some ((⟨g, 0, none⟩ : Addr).add (k * 1))) _ _ = _
        rw [hadd]
      have hfit : k + q ≤ cur.size := by omega
      have hr := run_copy_some (P := P) (t := t) (t' := t') (ty := ty) (dl := n - k) (dc := cap - k) (o := k) q ht he hR (by omega) hq hg hz h1 hfit
      have hql : (ys.take q).length = q := by rw [List.length_take, hR.1]; omega
      refine go _ _ hX hr (s.upd i hi rfl rfl rfl (by simp) ⟨?_, .inr ⟨g, cap, _, fz, rfl, hbg, setRow_heap w g cur _ e _ hg, ?_, hnc, hcm, ?_, ?_⟩⟩ (fun j hj => .inl hj) (fun j _ hj => setRow_other w g j _ (fun e9 => hj (Own.at_sl.2 (by simp [Value.ownBlock, e9])))))
      · simp only [List.length_append, List.length_take, List.length_drop, hql, hxl]; omega
      · refine hz.imp id fun h9 => ?_
        simp only [List.size_toArray, List.length_append, List.length_take, List.length_drop, Array.length_toList, hql]
        omega
      · simp only [List.size_toArray, List.length_append, List.length_take, List.length_drop, Array.length_toList, hql]
        omega
      · rw [Nat.mul_one] at htk
        have e1 : xs.take k = cur.toList.take k := by rw [← htk, List.take_take, Nat.min_eq_left hk]
        have e2 : xs.drop (k + q) = (cur.toList.drop (k + q)).take (n - (k + q)) := by rw [← htk, List.drop_take]
        rw [e1, e2, Nat.mul_one]
        show (cur.toList.take k ++ ys.take q ++ cur.toList.drop (k + q)).take n = _
        have hl9 : (cur.toList.take k ++ ys.take q).length = k + q := by
          rw [List.length_append, List.length_take, Array.length_toList, hql]; omega
        rw [List.take_append, hl9, List.take_of_length_le (by omega)]
end
theorem Tails.one {w : World} {base : Nat} {e : TypeId} {sz : Nat} {v : Value} {n : Nat} {xs : List Value} (h : Tails w base e sz v n xs) : v.oneCell' = true := by
  rcases h.2 with ⟨rfl, _⟩ | ⟨g, o, cap, cur, fz, rfl, _⟩ <;> rfl
end Go.Proofs.Ytdehanjhphfanaa

namespace Go.Proofs.Ytdehanjhphfanaa
open Go.RowKit
/-! ### where it comes to, copy behind copy: a row of packets, counts -/
abbrev P2 := Pk × Value
def pqL (x : P2) : List Value := pkL x.2 x.1.2.1 x.1.2.2
def pqCells (l : List P2) : List Value := l.flatMap pqL
theorem pqCells_app (l r : List P2) : pqCells (l ++ r) = pqCells l ++ pqCells r := List.flatMap_append
theorem pq_snoc (l : List P2) (x : P2) : pqCells l ++ (pkArr x.2 x.1.2.1 x.1.2.2).toList = pqCells (l ++ [x]) := by rw [pqCells_app]; rfl
theorem pq_el (x : P2) (l : List P2) : (((pqCells (x :: l)).drop (0 * 3)).take 3).toArray = pkArr x.2 x.1.2.1 x.1.2.2 := rfl
def RdQ (Q : List P2) (w : World) : Prop := ∀ x ∈ Q, RdE w x.2 x.1.1
def pks (Q : List P2) : List Pk := Q.map (·.1)
def onQ (K : List O2) : List P2 := (K.filter fun x => decide (x.1.k = 2)).map fun x => (x.1.p, x.2)
theorem onQ_rd {K : List O2} {w : World} (h : RwU K w) : RdQ (onQ K) w := fun x hx => by
  obtain ⟨o, ho, rfl⟩ := List.mem_map.1 hx
  exact h o (List.mem_filter.1 ho).1
theorem RdQ.app {A B : List P2} {w : World} (h : RdQ A w) (h2 : RdQ B w) : RdQ (A ++ B) w := fun x hx => by
  rcases List.mem_append.1 hx with hx | hx
  · exact h x hx
  · exact h2 x hx
theorem RwU.take {K : List O2} {w : World} (h : RwU K w) (k : Nat) : RwU (K.take k) w := fun x hx => h x (List.mem_of_mem_take hx)
theorem take_ou {K : List O2} {k : Nat} (hk : k < K.length) : K.take (k + 1) = K.take k ++ [K.getD k zO2] := by rw [List.take_succ_eq_append_getElem hk, ouD hk]
theorem onQ_y {K : List O2} {k : Nat} (hk : k < K.length) (h : decide ((K.getD k zO2).1.k = 2) = true) : onQ (K.take (k + 1)) = onQ (K.take k) ++ [((K.getD k zO2).1.p, (K.getD k zO2).2)] := by
  unfold onQ
  rw [take_ou hk, List.filter_append, List.map_append]
  have : ([K.getD k zO2].filter fun x => decide (x.1.k = 2)) = [K.getD k zO2] := List.filter_cons_of_pos (p := fun x : O2 => decide (x.1.k = 2)) h
  rw [this]; rfl
theorem onQ_n {K : List O2} {k : Nat} (hk : k < K.length) (h : decide ((K.getD k zO2).1.k = 2) = false) : onQ (K.take (k + 1)) = onQ (K.take k) := by
  unfold onQ
  rw [take_ou hk, List.filter_append, List.map_append]
  have : ([K.getD k zO2].filter fun x => decide (x.1.k = 2)) = [] := List.filter_cons_of_neg (p := fun x : O2 => decide (x.1.k = 2)) (by rw [h]; decide)
  rw [this]; exact List.append_nil _
theorem onQ_len (K : List O2) (k : Nat) : (onQ (K.take k)).length ≤ k := by
  unfold onQ
  rw [List.length_map]
  exact Nat.le_trans (List.length_filter_le _ _) (by rw [List.length_take]; exact Nat.min_le_left _ _)
/-! counts, added -/
def sumP (f : Pk → Cn) : List Pk → Cn | [] => .zero | p :: l => (f p).add (sumP f l)
theorem sumP_app (f : Pk → Cn) : ∀ a b : List Pk, sumP f (a ++ b) = (sumP f a).add (sumP f b)
  | [], b => (Cn.zero_add _).symm
  | p :: a, b => by
    show (f p).add (sumP f (a ++ b)) = ((f p).add (sumP f a)).add (sumP f b)
    rw [sumP_app f a b, Cn.add_assoc]
theorem sumP_work {f : Pk → Cn} : ∀ l : List Pk, (∀ p ∈ l, 1 ≤ (f p).work) → l.length ≤ (sumP f l).work
  | [], _ => Nat.zero_le _
  | p :: l, h => by
    show l.length + 1 ≤ (f p).work + (sumP f l).work
    have h1 := h p List.mem_cons_self
    have h2 := sumP_work l fun x hx => h x (List.mem_cons_of_mem _ hx)
    omega
def endC (l : List Ot) : Cn := sumC (fun _ => .zero) l
theorem sumC_app {f : Pk → Cn} : ∀ a b : List Ot, sumC f (a ++ b) = (sumC f a).add (sumC f b)
  | [], b => (Cn.zero_add _).symm
  | o :: a, b => by
    show (oneC f o).add (sumC f (a ++ b)) = ((oneC f o).add (sumC f a)).add (sumC f b)
    rw [sumC_app a b, Cn.add_assoc]
theorem one_not {f : Pk → Cn} {o : Ot} (h : decide (o.k = 2) = false) : oneC f o = oneC (fun _ => .zero) o := oneC_congr fun h9 => absurd h9 (of_decide_eq_false h)
theorem one_on {f : Pk → Cn} {o : Ot} (h : decide (o.k = 2) = true) : oneC f o = f o.p := by
  have h := of_decide_eq_true h
  unfold oneC; rw [if_neg (by rw [h]; decide), if_pos h]
theorem swap_add (a b c : Cn) : a.add (b.add c) = b.add (a.add c) := by rw [← Cn.add_assoc, Cn.add_comm a b, Cn.add_assoc]
theorem sum_on (f : Pk → Cn) : ∀ K : List O2, sumC f (outs K) = (endC (outs K)).add (sumP f (pks (onQ K)))
  | [] => (Cn.zero_add _).symm
  | x :: K => by
    have ih := sum_on f K
    show (oneC f x.1).add (sumC f (outs K)) = ((oneC (fun _ => .zero) x.1).add (endC (outs K))).add (sumP f (pks (onQ (x :: K))))
    cases h : decide (x.1.k = 2) with
    | true =>
      have e : onQ (x :: K) = (x.1.p, x.2) :: onQ K := by
        unfold onQ
        rw [List.filter_cons_of_pos (p := fun x : O2 => decide (x.1.k = 2)) h]; rfl
      rw [e, one_on h, one_on (f := fun _ => .zero) h, Cn.zero_add, ih]
      exact swap_add _ _ _
    | false =>
      have e : onQ (x :: K) = onQ K := by
        unfold onQ
        rw [List.filter_cons_of_neg (p := fun x : O2 => decide (x.1.k = 2)) (by rw [h]; decide)]
      rw [e, one_not h, ih, Cn.add_assoc]
theorem endC_s {K : List O2} {k : Nat} (hk : k < K.length) : endC (outs (K.take (k + 1))) = (endC (outs (K.take k))).add (oneC (fun _ => .zero) (K.getD k zO2).1) := by
  rw [take_ou hk]
  unfold endC outs
  rw [List.map_append, sumC_app]
  show _ = Cn.add _ _
  congr 1
theorem endC_y {K : List O2} {k : Nat} (hk : k < K.length) (h : decide ((K.getD k zO2).1.k = 2) = true) : endC (outs (K.take (k + 1))) = endC (outs (K.take k)) := by
  rw [endC_s hk, one_on h]; rfl
structure CB (c : Cn) (m : Nat) : Prop where
  hs : ∀ h, c.hs h ≤ m
  lost : c.lost ≤ m
  hops : c.hops ≤ m
theorem CB.mono {c : Cn} {m n : Nat} (h : CB c m) (hm : m ≤ n) : CB c n := ⟨fun x => Nat.le_trans (h.hs x) hm, Nat.le_trans h.lost hm, Nat.le_trans h.hops hm⟩
theorem CB.zero : CB .zero 0 := ⟨fun _ => Nat.le_refl _, Nat.le_refl _, Nat.le_refl _⟩
theorem CB.wk {c : Cn} {m : Nat} (h : CB c m) : CB (c.add wkC) m := ⟨fun x => h.hs x, h.lost, h.hops⟩
theorem CB.one {c : Cn} {m : Nat} (h : CB c m) (o : Ot) : CB (c.add (oneC (fun _ => .zero) o)) (m + 1) := by
  have h1 := h.hs; have h2 := h.lost; have h3 := h.hops
  unfold oneC
  split
  · refine ⟨fun x => ?_, ?_, ?_⟩
    · have := h1 x; show c.hs x + (if x = o.h.toNat then 1 else 0) ≤ m + 1; split <;> omega
    · show c.lost + 0 ≤ m + 1; omega
    · show c.hops + 0 ≤ m + 1; omega
  · split
    · refine ⟨fun x => ?_, ?_, ?_⟩
      · have := h1 x; show c.hs x + 0 ≤ m + 1; omega
      · show c.lost + 0 ≤ m + 1; omega
      · show c.hops + 0 ≤ m + 1; omega
    · split
      · refine ⟨fun x => ?_, ?_, ?_⟩
        · have := h1 x; show c.hs x + 0 ≤ m + 1; omega
        · show c.lost + 0 ≤ m + 1; omega
        · show c.hops + 1 ≤ m + 1; omega
      · refine ⟨fun x => ?_, ?_, ?_⟩
        · have := h1 x; show c.hs x + 0 ≤ m + 1; omega
        · show c.lost + 1 ≤ m + 1; omega
        · show c.hops + 0 ≤ m + 1; omega
/-- what there is behind k of what became of a copy -/
def cK (c : Cn) (K : List O2) (k : Nat) : Cn := (c.add wkC).add (endC (outs (K.take k)))
theorem cK_s {c : Cn} {K : List O2} {k : Nat} (hk : k < K.length) : cK c K (k + 1) = (cK c K k).add (oneC (fun _ => .zero) (K.getD k zO2).1) := by
  unfold cK; rw [endC_s hk]; exact (Cn.add_assoc _ _ _).symm
theorem cK_y {c : Cn} {K : List O2} {k : Nat} (hk : k < K.length) (h : decide ((K.getD k zO2).1.k = 2) = true) : cK c K (k + 1) = cK c K k := by
  unfold cK; rw [endC_y hk h]
theorem cK_cb {c : Cn} {K : List O2} {m : Nat} (h : CB c m) : ∀ k, k ≤ K.length → CB (cK c K k) (m + k)
  | 0, _ => h.wk
  | k + 1, hk => by rw [cK_s (by omega)]; exact (cK_cb h k (by omega)).one _
theorem endC_work : ∀ l : List Ot, (endC l).work = 0
  | [] => rfl
  | o :: l => by
    show (oneC (fun _ => .zero) o).work + (endC l).work = 0
    rw [endC_work l]
    unfold oneC
    split
    · rfl
    · split
      · rfl
      · split <;> rfl
theorem cK_work (c : Cn) (K : List O2) (k : Nat) : (cK c K k).work = c.work + 1 := by
  show c.work + 1 + (endC (outs (K.take k))).work = _
  rw [endC_work]
/-- a copy was taken: what there is, and what waits, make the same -/
theorem bf_next {t : List Tg} {F c : Cn} {q : P2} {Q : List P2} {K : List O2} (h0 : 0 ≤ q.1.2.1) (hK : outs K = stepO t q.1) (h : c.add (sumP (full t) (pks (q :: Q))) = F) : (cK c K K.length).add (sumP (full t) (pks (Q ++ onQ K))) = F := by
  rw [← h]
  unfold cK
  rw [List.take_length]
  show _ = c.add ((full t q.1).add (sumP (full t) (pks Q)))
  rw [full_is h0, ← hK, sum_on]
  have e : pks (Q ++ onQ K) = pks Q ++ pks (onQ K) := List.map_append
  rw [e, sumP_app, Cn.add_assoc, Cn.add_assoc, Cn.add_assoc, Cn.add_assoc, Cn.add_comm (sumP _ (pks Q))]
theorem bf_end {t : List Tg} {F c : Cn} {Q : List P2} (hQ : Q = []) (h : c.add (sumP (full t) (pks Q)) = F) : c = F := by subst hQ; exact h
theorem bf_big {t : List Tg} {p : Pk} {c : Cn} {Q : List P2} (hQ : ∀ x ∈ Q, rightP x.1 = true) (h : c.add (sumP (full t) (pks Q)) = full t p) (hw : 1000 < c.work + Q.length) : delB t p = false := by
  have h1 : Q.length ≤ (sumP (full t) (pks Q)).work := by
    have := sumP_work (f := full t) (pks Q) fun x hx => by
      obtain ⟨y, hy, rfl⟩ := List.mem_map.1 hx
      have := (rightP_iff.1 (hQ y hy)).2.1
      exact (spr_work (t := t) (y.1.2.1.toNat + 1) y.1 this (by omega)).1
    rwa [show (pks Q).length = Q.length from List.length_map _] at this
  refine decide_eq_false ?_
  rw [← h]
  show ¬ c.work + (sumP (full t) (pks Q)).work ≤ 1000
  omega
theorem bf_ok {t : List Tg} {p : Pk} {c : Cn} (h : c = full t p) (hw : c.work ≤ 1000) (h0 : 0 ≤ p.2.1) : delB t p = true ∧ delD t p = ⟨hostK c 16, c.lost, c.hops, c.work⟩ ∧ COk c := by
  subst h
  have hb : delB t p = true := decide_eq_true hw
  have hd : delD t p = ⟨hostsL (full t p), (full t p).lost, (full t p).hops, (full t p).work⟩ := by unfold delD; rw [hb]; rfl
  have hw9 : ¬ 1000 < (goF t (p.2.1.toNat + 1) .zero p).work := fun h9 => by have := (go_full h0).1 h9; rw [hb] at this; cases this
  have hf := ((go_full h0).2 hw9).1
  refine ⟨hb, hd, ?_⟩
  rw [← hf]; exact go_ok _ _ _ zero_ok
/-! the counts in a row of numbers -/
def enL (c : Cn) : List Value := hsC c ++ [.int .i64 (c.lost : Int), .int .i64 (c.hops : Int)]
def enA (c : Cn) : Array Value := (enL c).toArray
theorem enL_len (c : Cn) : (enL c).length = 18 := by unfold enL; rw [List.length_append, hsC_len]; rfl
theorem enA_size (c : Cn) : (enA c).size = 18 := enL_len c
theorem en_hs {c : Cn} {h : Nat} (hh : h < 16) : (enA c)[h]? = some (.int .i64 (c.hs h : Int)) := by
  show (enL c).toArray[h]? = _
  rw [List.getElem?_toArray]
  unfold enL
  rw [List.getElem?_append_left (by rw [hsC_len]; exact hh)]
  exact hs_at hh
theorem en_lost (c : Cn) : (enA c)[16]? = some (.int .i64 (c.lost : Int)) := by
  show (enL c).toArray[16]? = _
  rw [List.getElem?_toArray]
  unfold enL
  rw [List.getElem?_append_right (by rw [hsC_len]; exact Nat.le_refl _), hsC_len]; rfl
theorem en_hops (c : Cn) : (enA c)[17]? = some (.int .i64 (c.hops : Int)) := by
  show (enL c).toArray[17]? = _
  rw [List.getElem?_toArray]
  unfold enL
  rw [List.getElem?_append_right (by rw [hsC_len]; decide), hsC_len]; rfl
theorem set_arr (l : List Value) (j : Nat) (v : Value) : l.toArray.setIfInBounds j v = (l.set j v).toArray := by simp
theorem en_set1 {c : Cn} {o : Ot} (hk : decide (o.k = 1) = true) (hh : o.h.toNat < 16) : (enA c).setIfInBounds o.h.toNat (.int .i64 ((c.hs o.h.toNat : Int) + 1)) = enA (c.add (oneC (fun _ => .zero) o)) := by
  have e : oneC (fun _ => .zero) o = hostC o.h.toNat := by unfold oneC; rw [if_pos (of_decide_eq_true hk)]; rfl
  rw [e]
  show (enL c).toArray.setIfInBounds _ _ = (enL _).toArray
  rw [set_arr]
  unfold enL
  rw [List.set_append_left _ _ (by rw [hsC_len]; exact hh), hs_set]; rfl
theorem en_set9 {c : Cn} {o : Ot} (h1 : decide (o.k = 1) = false) (h2 : decide (o.k = 2) = false) (hk : decide (o.y = 9) = true) : (enA c).setIfInBounds 17 (.int .i64 ((c.hops : Int) + 1)) = enA (c.add (oneC (fun _ => .zero) o)) := by
  have e : oneC (fun _ => .zero) o = ⟨fun _ => 0, 0, 1, 0⟩ := by unfold oneC; rw [if_neg (of_decide_eq_false h1), if_neg (of_decide_eq_false h2), if_pos (of_decide_eq_true hk)]
  rw [e]
  show (enL c).toArray.setIfInBounds _ _ = (enL _).toArray
  rw [set_arr]
  unfold enL
  rw [List.set_append_right _ _ (by rw [hsC_len]; decide), hsC_len]; rfl
theorem en_set6 {c : Cn} {o : Ot} (h1 : decide (o.k = 1) = false) (h2 : decide (o.k = 2) = false) (hk : decide (o.y = 9) = false) : (enA c).setIfInBounds 16 (.int .i64 ((c.lost : Int) + 1)) = enA (c.add (oneC (fun _ => .zero) o)) := by
  have e : oneC (fun _ => .zero) o = ⟨fun _ => 0, 1, 0, 0⟩ := by unfold oneC; rw [if_neg (of_decide_eq_false h1), if_neg (of_decide_eq_false h2), if_neg (of_decide_eq_false hk)]
  rw [e]
  show (enL c).toArray.setIfInBounds _ _ = (enL _).toArray
  rw [set_arr]
  unfold enL
  rw [List.set_append_right _ _ (by rw [hsC_len]; decide), hsC_len]; rfl
theorem en_sl (c : Cn) : (enA c).extract 0 (0 + 16) = (hsC c).toArray := by
  show (enL c).toArray.extract 0 16 = _
  rw [List.extract_toArray]
  unfold enL
  rw [List.extract_eq_take_drop, List.drop_zero, Nat.sub_zero, List.take_left' (hsC_len c)]
/-! one, so many times -/
def repL (n k : Nat) (x : Int) : List Value := List.replicate k (.int .i64 x) ++ List.replicate (n - k) (.int .i64 0)
theorem repL_len {n k : Nat} (x : Int) (hk : k ≤ n) : (repL n k x).length = n := by unfold repL; rw [List.length_append, List.length_replicate, List.length_replicate]; omega
theorem repL_ones (n k : Nat) (x : Int) : ∀ u ∈ repL n k x, u.oneCell' = true := fun u hu => by
  unfold repL at hu
  rcases List.mem_append.1 hu with hu | hu <;> (rw [List.eq_of_mem_replicate hu]; rfl)
theorem repL_copy {n k q : Nat} (x : Int) (h : k + q ≤ n) (hq : q ≤ k) : (repL n k x).take k ++ ((repL n k x).take k).take q ++ (repL n k x).drop (k + q) = repL n (k + q) x := by
  have e1 : (repL n k x).take k = List.replicate k (.int .i64 x) := List.take_left' List.length_replicate
  have e2 : (repL n k x).drop (k + q) = List.replicate (n - (k + q)) (.int .i64 0) := by
    unfold repL
    rw [List.drop_append, List.length_replicate, List.drop_replicate, List.drop_replicate, show k - (k + q) = 0 by omega]
    show [] ++ List.replicate (n - k - (k + q - k)) _ = _
    rw [List.nil_append]; congr 1; omega
  rw [e1, e2, List.take_replicate, Nat.min_eq_left hq, List.replicate_append_replicate]; rfl
theorem repL_first {n q : Nat} (x : Int) (hq : q = min 1 (n - 0)) : (repL n 0 x).take 0 ++ [Value.int .i64 x].take q ++ (repL n 0 x).drop (0 + q) = repL n q x := by
  unfold repL
  rw [List.take_zero, List.nil_append, List.replicate_zero, List.nil_append, List.drop_replicate, Nat.zero_add, Nat.sub_zero]
  congr 1
  rcases Nat.eq_zero_or_pos n with h | h
  · have : q = 0 := by omega
    subst this; rfl
  · have : q = 1 := by omega
    subst this; rfl
theorem repL_all (n : Nat) (x : Int) : repL n n x = intC (List.replicate n x) := by
  unfold repL
  rw [Nat.sub_self, List.replicate_zero, List.append_nil]
  show _ = (List.replicate n x).map (Value.int .i64)
  rw [List.map_replicate]
theorem made_int (n : Nat) : (madeCells (Value.int .i64 0).cells (n * 1)).toList = repL n 0 0 := by
  refine List.ext_getElem? fun j => ?_
  have hs : (madeCells (Value.int .i64 0).cells (n * 1)).size = n := by simp [madeCells]
  rcases Nat.lt_or_ge j n with h | h
  · have h1 : repL n 0 0 = List.replicate n (.int .i64 0) := by unfold repL; rfl
    rw [h1, List.getElem?_replicate, if_pos h, Array.getElem?_toList, Array.getElem?_eq_getElem (by omega)]
    simp [madeCells, Value.cells, Nat.mod_one]
  · rw [List.getElem?_eq_none (by rw [Array.length_toList]; omega), List.getElem?_eq_none (by rw [repL_len _ (Nat.zero_le _)]; omega)]
theorem repL_00 (n : Nat) (x : Int) : repL n 0 0 = repL n 0 x := rfl
/-! what the package hands out -/
theorem spP_own {w w' : World} {N : TypeId} {D : Sd} {E : Int} {u : Value} {hs : List Int} {a b c : Int} (s : St w [.sl u N 1 hs.length (intC hs)] w') (hD : D = ⟨hs, a, b, c⟩) : SpP w D E (.tuple #[.agg (ssArr u a b c), .int .i64 E]) w' := by
  subst hD
  have s0 := s.grp0 (S := fun _ => True) fun _ => trivial
  obtain ⟨kn, s1⟩ := St.grp1 (S' := fun w9 => RdZ w9 u 1 hs.length (intC hs)) (s0.perm (List.Perm.swap _ _ _)) fun w9 h _ => h
  exact ⟨u, kn, rfl, s1⟩
theorem spP_nil {w w' : World} {D : Sd} {E : Int} (s : St w [] w') (hD : D = zSd) : SpP w D E (.tuple #[.agg (ssArr nilV 0 0 0), .int .i64 E]) w' := by
  subst hD
  exact ⟨nilV, [], rfl, s.grp0 fun w9 => ⟨rfl, .inl ⟨rfl, rfl⟩⟩⟩
theorem slP_own {w w' : World} {N : TypeId} {L : List Lnk} {E : Int} {u : Value} (s : St w [.sl u N 64 L.length (lCells L)] w') : SlP w L E (.tuple #[u, .int .i64 E]) w' := by
  have s0 := s.grp0 (S := fun _ => True) fun _ => trivial
  obtain ⟨kn, s1⟩ := St.grp1 (S' := fun w9 => RdZ w9 u 64 L.length (lCells L)) (s0.perm (List.Perm.swap _ _ _)) fun w9 h _ => h
  exact ⟨u, kn, rfl, s1⟩
theorem slP_nil {w w' : World} {L : List Lnk} {E : Int} (s : St w [] w') (hD : L = []) : SlP w L E (.tuple #[nilV, .int .i64 E]) w' := by
  subst hD
  exact ⟨nilV, [], rfl, s.grp0 fun w9 => ⟨rfl, .inl ⟨rfl, rfl⟩⟩⟩
/-! what the walks want besides -/
theorem rwLy {t : List Tg} {p : Pk} (h : rightP p = true) (h2 : rightT t = true) : rwL t p = stepO t p := by unfold rwL; rw [h, h2]; rfl
theorem int_ones (l : List Int) : ∀ u ∈ intC l, u.oneCell' = true := fun u hu => by
  obtain ⟨x, _, rfl⟩ := List.mem_map.1 hu; rfl
theorem pq_sz (x : P2) : ∀ v ∈ ([.agg (pkArr x.2 x.1.2.1 x.1.2.2)] : List Value), v.cells.size = 3 := fun v hv => by
  rw [List.mem_singleton] at hv; subst hv; rfl
theorem pq_one (x : P2) : ([Value.agg (pkArr x.2 x.1.2.1 x.1.2.2)].flatMap fun v => v.cells.toList) = (pkArr x.2 x.1.2.1 x.1.2.2).toList := by simp [Value.cells]
theorem drop0 {w : World} {base : Nat} {e : TypeId} {sz : Nat} {v : Value} {n : Nat} {xs : List Value} (h : Owns w base e sz v n xs) : dropV v 1 0 = v := by
  rcases h.2 with ⟨rfl, rfl⟩ | ⟨g, cap, cur, fz, rfl, _⟩
  · rfl
  · have hadd : (⟨g, 0, none⟩ : Addr).add (0 * 1) = ⟨g, 0, none⟩ := by unfold Addr.add; split <;> simp_all
    show Value.slice (if cap = 0 then _ else (some ⟨g, 0, none⟩ : Option Addr).map (·.add (0 * 1))) (n - 0) (cap - 0) = _
    simp [hadd]
theorem St.o3 {w0 w : World} {a b c : Own} {B : List Own} (s : St w0 (a :: b :: c :: B) w) : St w0 (c :: a :: B) w :=
  (s.perm (List.perm_middle (l₁ := [a, b]))).pick _ (List.Sublist.cons_cons _ (List.Sublist.cons_cons _ (List.sublist_cons_self _ _)))
theorem St.rot3 {w0 w : World} {a b c : Own} {B : List Own} (s : St w0 (a :: b :: c :: B) w) : St w0 (c :: a :: b :: B) w :=
  s.perm (List.perm_middle (l₁ := [a, b]))
theorem onQ_right {t : List Tg} {q : Pk} {K : List O2} (hq : rightP q = true) (ht : rightT t = true) (hK : outs K = stepO t q) : ∀ x ∈ onQ K, rightP x.1 = true := fun x hx => by
  obtain ⟨o, ho, rfl⟩ := List.mem_map.1 hx
  obtain ⟨ho, hk⟩ := List.mem_filter.1 ho
  exact (step_on hq ht (by rw [← hK]; exact List.mem_map_of_mem ho) (of_decide_eq_true hk)).1
theorem and_low (y : Nat) (h : y < 4294967296) : IntKind.u64.wrap ((BitVec.ofInt IntKind.u64.bits (y : Int) &&& BitVec.ofInt IntKind.u64.bits 4294967295).toNat : Int) = (y : Int) := by
  show IntKind.u64.wrap ((BitVec.ofInt 64 (y : Int) &&& BitVec.ofInt 64 4294967295).toNat : Int) = (y : Int)
  have e1 : BitVec.ofInt 64 (y : Int) = BitVec.ofNat 64 y := BitVec.ofInt_natCast ..
  have e2 : BitVec.ofInt 64 4294967295 = BitVec.ofNat 64 4294967295 := by decide
  have e3 : y &&& 4294967295 = y := by
    have := Nat.and_two_pow_sub_one_eq_mod y 32
    rw [Nat.mod_eq_of_lt (by omega)] at this
    exact this
  rw [e1, e2, ← BitVec.ofNat_and, e3, BitVec.toNat_ofNat, IntKind.wrap_u64]
  omega
theorem shr_low (y : Nat) (h : y < 4294967296) : Int.fdiv (y : Int) (2 ^ (min (32 : Int).toNat IntKind.u64.bits)) = 0 := by
  show Int.fdiv (y : Int) 4294967296 = 0
  rw [Int.fdiv_eq_ediv_of_nonneg _ (by decide)]
  omega
theorem mul_low (y : Nat) (h : y < 4294967296) : IntKind.u64.wrap (1 * (y : Int)) = (y : Int) := by rw [IntKind.wrap_u64]; omega
theorem mul_0 (y : Int) : IntKind.u64.wrap (0 * y) = 0 := by rw [Int.zero_mul]; decide
section
variable {P : Program} {ρ : Operand → Value} {d : Option Tmp} {ty : TypeId} {pos : String} {af : Array Edge} {g : Option (Nat × Bool)} {x y z u : Operand} {t : TypeId}
theorem ru_build_ss4 {v : Value} {l h k : Int} (S : Stt P t ssZ) (hv : v.cells.size = 1) (hc : v.cells.toList = [v]) (hx : ρ x = v) (hy : ρ y = .int .i64 l) (hz : ρ z = .int .i64 h) (hu : ρ u = .int .i64 k) : RunsTo P ⟨d, .build t #[(0, x), (1, y), (2, z), (3, u)], ty, pos, af, g⟩ ρ (.agg (ssArr v l h k)) := by
  have := ru_build_st (P := P) (ρ := ρ) (d := d) (ty := ty) (pos := pos) (af := af) (g := g) (parts := #[(0, x), (1, y), (2, z), (3, u)]) S [(0, v), (1, .int .i64 l), (2, .int .i64 h), (3, .int .i64 k)] (by simp [hx, hy, hz, hu]) (fun i u hm => by
    simp only [List.mem_cons, Prod.mk.injEq, List.not_mem_nil, or_false] at hm
    rcases hm with ⟨rfl, rfl⟩ | ⟨rfl, rfl⟩ | ⟨rfl, rfl⟩ | ⟨rfl, rfl⟩
    · exact ⟨_, rfl, hv⟩
    · exact ⟨_, rfl, rfl⟩
    · exact ⟨_, rfl, rfl⟩
    · exact ⟨_, rfl, rfl⟩) (D := ssL v l h k) (by
      show v.cells.toList ++ ([Value.int .i64 l] ++ ([Value.int .i64 h] ++ ([Value.int .i64 k] ++ []))) = _
      rw [hc]; rfl)
  exact this
end
end Go.Proofs.Ytdehanjhphfanaa
