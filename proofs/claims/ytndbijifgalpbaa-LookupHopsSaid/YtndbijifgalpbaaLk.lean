/- What a server answers, whom a walk asks and where it ends; in an overlay that is stable it ends with the one that it belongs to; maps of numbers to values; regions that draw their order, with something said beside a value; no Go in it. -/
import Derived.Test.YtndbijifgalpbaaOw
set_option linter.unusedVariables false
set_option linter.unusedSimpArgs false
set_option linter.unusedSectionVars false
namespace Go.Proofs.Ytndbijifgalpbaa
open Go.RowKit
/-! ### what a server answers for an identifier, having dropped who does not live -/
def anO (l : List Mb) (n : Nd) (x : Id) : Bool := !decide ((td1 l n).pr = nMb) && inB x (td1 l n).pr.2 (td1 l n).me.2
def anM (l : List Mb) (n : Nd) (x : Id) : Mb := bif anO l n x then n.me else nxM (td1 l n) x
def anB (l : List Mb) (n : Nd) (x : Id) : Bool := anO l n x || nxB (td1 l n) x
theorem an_own {l : List Mb} {n : Nd} {x : Id} (h : anO l n x = true) : anM l n x = n.me ∧ anB l n x = true := by unfold anM anB; rw [h]; exact ⟨rfl, rfl⟩
theorem an_nx {l : List Mb} {n : Nd} {x : Id} (h : anO l n x = false) : anM l n x = nxM (td1 l n) x ∧ anB l n x = nxB (td1 l n) x := by unfold anM anB; rw [h]; exact ⟨rfl, rfl⟩
theorem ao_0 {l : List Mb} {n : Nd} {x : Id} (h : decide ((td1 l n).pr = nMb) = true) : anO l n x = false := by unfold anO; rw [h]; rfl
theorem ao_1 {l : List Mb} {n : Nd} {x : Id} (h : decide ((td1 l n).pr = nMb) = false) : anO l n x = inB x (td1 l n).pr.2 (td1 l n).me.2 := by unfold anO; rw [h]; rfl
/-! ### a walk: whom it asks, where it ends -/
def nowK (L : List N3) (x : Id) (no : Int) : Nat → Int
  | 0 => no
  | k + 1 => (anM (memL L) (getL L (nowK L x no k)).1 x).1
def ansK (L : List N3) (x : Id) (no : Int) (k : Nat) : Mb := anM (memL L) (getL L (nowK L x no k)).1 x
def lasK (L : List N3) (x : Id) (no : Int) (k : Nat) : Bool := anB (memL L) (getL L (nowK L x no k)).1 x
def endK (L : List N3) (x : Id) (no : Int) (k : Nat) : Bool := lasK L x no k || decide ((ansK L x no k).1 = nowK L x no k)
def stpK (L : List N3) (x : Id) (no : Int) (hops : Nat) : Option Nat := (List.range (hops + 1)).find? (endK L x no)
def wayK (L : List N3) (x : Id) (no : Int) (k : Nat) : List Int := (List.range k).map (nowK L x no)
def tlK9 (L : List N3) (x : Id) (no : Int) (k : Nat) : List Int := bif decide ((ansK L x no k).1 = nowK L x no k) then [] else [(ansK L x no k).1]
def wlE (L : List N3) (x : Id) (no : Int) (hops : Nat) : Int :=
  bif livesB (memL L) no then (match stpK L x no hops with | some k => bif lasK L x no k then 0 else 13 | none => 9) else 10
def wlM (L : List N3) (x : Id) (no : Int) (hops : Nat) : Mb := bif decide (wlE L x no hops = 0) then ansK L x no ((stpK L x no hops).getD 0) else zMb
def wlP (L : List N3) (x : Id) (no : Int) (hops : Nat) : List Int :=
  bif decide (wlE L x no hops = 0) then wayK L x no ((stpK L x no hops).getD 0 + 1) ++ tlK9 L x no ((stpK L x no hops).getD 0) else []
theorem way_len (L : List N3) (x : Id) (no : Int) (k : Nat) : (wayK L x no k).length = k := by simp [wayK]
theorem way_get (L : List N3) (x : Id) (no : Int) {i k : Nat} (h : i < k) : (wayK L x no k).getD i 0 = nowK L x no i := by
  unfold wayK
  rw [List.getD_eq_getElem?_getD, List.getElem?_map, List.getElem?_range h]; rfl
theorem tl_le (L : List N3) (x : Id) (no : Int) (k : Nat) : (tlK9 L x no k).length ≤ 1 := by unfold tlK9; cases decide ((ansK L x no k).1 = nowK L x no k) <;> simp
theorem stp_at {L : List N3} {x : Id} {no : Int} {hops k : Nat} (hk : k ≤ hops) (h : ∀ j, j < k → endK L x no j = false) (he : endK L x no k = true) : stpK L x no hops = some k := by
  unfold stpK
  rw [List.find?_range_eq_some]
  exact ⟨he, List.mem_range.2 (by omega), fun j hj => by rw [h j hj]; rfl⟩
theorem stp_no {L : List N3} {x : Id} {no : Int} {hops : Nat} (h : ∀ j, j ≤ hops → endK L x no j = false) : stpK L x no hops = none := by
  unfold stpK
  rw [List.find?_eq_none]
  intro j hj
  rw [h j (by have := List.mem_range.1 hj; omega)]
  decide
theorem stp_y {L : List N3} {x : Id} {no : Int} {hops k : Nat} (h : stpK L x no hops = some k) : endK L x no k = true ∧ k ≤ hops ∧ ∀ j, j < k → endK L x no j = false := by
  unfold stpK at h
  rw [List.find?_range_eq_some] at h
  refine ⟨h.1, by have := List.mem_range.1 h.2.1; omega, fun j hj => ?_⟩
  have := h.2.2 j hj
  cases he : endK L x no j with
  | false => rfl
  | true => rw [he] at this; cases this
theorem stp_n {L : List N3} {x : Id} {no : Int} {hops : Nat} (h : stpK L x no hops = none) : ∀ j, j ≤ hops → endK L x no j = false := fun j hj => by
  unfold stpK at h
  rw [List.find?_eq_none] at h
  have := h j (List.mem_range.2 (by omega))
  cases he : endK L x no j with
  | false => rfl
  | true => rw [he] at this; exact absurd rfl this
theorem wl_down {L : List N3} {x : Id} {no : Int} {hops : Nat} (h : livesB (memL L) no = false) : wlE L x no hops = 10 ∧ wlM L x no hops = zMb ∧ wlP L x no hops = [] := by
  have h0 : wlE L x no hops = 10 := by unfold wlE; rw [h]; rfl
  unfold wlM wlP; rw [h0]; exact ⟨rfl, rfl, rfl⟩
theorem wl_own {L : List N3} {x : Id} {no : Int} {hops k : Nat} (hl : livesB (memL L) no = true) (hk : k ≤ hops) (h : ∀ j, j < k → endK L x no j = false) (he : lasK L x no k = true) :
    wlE L x no hops = 0 ∧ wlM L x no hops = ansK L x no k ∧ wlP L x no hops = wayK L x no (k + 1) ++ tlK9 L x no k := by
  have hs := stp_at hk h (by unfold endK; rw [he]; rfl)
  have h0 : wlE L x no hops = 0 := by unfold wlE; rw [hl, hs]; show (bif lasK L x no k then (0 : Int) else 13) = 0; rw [he]; rfl
  unfold wlM wlP; rw [h0, hs]; exact ⟨rfl, rfl, rfl⟩
theorem wl_lost {L : List N3} {x : Id} {no : Int} {hops k : Nat} (hl : livesB (memL L) no = true) (hk : k ≤ hops) (h : ∀ j, j < k → endK L x no j = false) (he : lasK L x no k = false) (hq : decide ((ansK L x no k).1 = nowK L x no k) = true) :
    wlE L x no hops = 13 ∧ wlM L x no hops = zMb ∧ wlP L x no hops = [] := by
  have hs := stp_at hk h (by unfold endK; rw [he, hq]; rfl)
  have h0 : wlE L x no hops = 13 := by unfold wlE; rw [hl, hs]; show (bif lasK L x no k then (0 : Int) else 13) = 13; rw [he]; rfl
  unfold wlM wlP; rw [h0]; exact ⟨rfl, rfl, rfl⟩
theorem wl_hops {L : List N3} {x : Id} {no : Int} {hops : Nat} (hl : livesB (memL L) no = true) (h : ∀ j, j < hops + 1 → endK L x no j = false) : wlE L x no hops = 9 ∧ wlM L x no hops = zMb ∧ wlP L x no hops = [] := by
  have hs := stp_no (hops := hops) fun j hj => h j (by omega)
  have h0 : wlE L x no hops = 9 := by unfold wlE; rw [hl, hs]; rfl
  unfold wlM wlP; rw [h0]; exact ⟨rfl, rfl, rfl⟩
theorem end_no {L : List N3} {x : Id} {no : Int} {k : Nat} (he : lasK L x no k = false) (hq : decide ((ansK L x no k).1 = nowK L x no k) = false) : endK L x no k = false := by unfold endK; rw [he, hq]; rfl
/-- how it can end -/
theorem wl_cases (L : List N3) (x : Id) (no : Int) (hops : Nat) :
    (wlE L x no hops ≠ 0 ∧ wlM L x no hops = zMb ∧ wlP L x no hops = []) ∨
    (wlE L x no hops = 0 ∧ livesB (memL L) no = true ∧ ∃ k, k ≤ hops ∧ (∀ j, j < k → endK L x no j = false) ∧ lasK L x no k = true ∧ stpK L x no hops = some k ∧ wlM L x no hops = ansK L x no k ∧ wlP L x no hops = wayK L x no (k + 1) ++ tlK9 L x no k) := by
  cases hl : livesB (memL L) no with
  | false => have h := wl_down (x := x) (hops := hops) hl; exact .inl ⟨by rw [h.1]; decide, h.2⟩
  | true =>
    cases hs : stpK L x no hops with
    | none => have h := wl_hops (hops := hops) hl fun j hj => stp_n hs j (by omega); exact .inl ⟨by rw [h.1]; decide, h.2⟩
    | some k =>
      obtain ⟨h1, h2, h3⟩ := stp_y hs
      cases he : lasK L x no k with
      | true => have h := wl_own hl h2 h3 he; exact .inr ⟨h.1, rfl, k, h2, h3, he, rfl, h.2.1, h.2.2⟩
      | false =>
        have hq : decide ((ansK L x no k).1 = nowK L x no k) = true := by unfold endK at h1; rw [he] at h1; exact h1
        have h := wl_lost hl h2 h3 he hq; exact .inl ⟨by rw [h.1]; decide, h.2⟩
/-! ### what is told from outside -/
def wkOk (L : List N3) (hops : Int) : Bool := ovR L && (decide (0 ≤ hops) && decide (hops ≤ 16))
def wkE (L : List N3) (x : Id) (no hops : Int) : Int := bif wkOk L hops then wlE L x no hops.toNat else 1
def wkM (L : List N3) (x : Id) (no hops : Int) : Mb := bif wkOk L hops then wlM L x no hops.toNat else zMb
def wkP (L : List N3) (x : Id) (no hops : Int) : List Int := bif wkOk L hops then wlP L x no hops.toNat else []
theorem wk_no {L : List N3} {x : Id} {no hops : Int} (h : wkOk L hops = false) : wkE L x no hops = 1 ∧ wkM L x no hops = zMb ∧ wkP L x no hops = [] := by unfold wkE wkM wkP; rw [h]; exact ⟨rfl, rfl, rfl⟩
theorem wk_ok {L : List N3} {x : Id} {no hops : Int} (h : wkOk L hops = true) : wkE L x no hops = wlE L x no hops.toNat ∧ wkM L x no hops = wlM L x no hops.toNat ∧ wkP L x no hops = wlP L x no hops.toNat := by unfold wkE wkM wkP; rw [h]; exact ⟨rfl, rfl, rfl⟩
theorem way_bd (L : List N3) (x : Id) (no hops : Int) : (wkP L x no hops).length ≤ 18 := by
  unfold wkP
  cases h : wkOk L hops with
  | false => exact Nat.zero_le _
  | true =>
    have hh : hops.toNat ≤ 16 := by unfold wkOk at h; simp only [Bool.and_eq_true, decide_eq_true_eq] at h; omega
    show (wlP L x no hops.toNat).length ≤ 18
    rcases wl_cases L x no hops.toNat with ⟨_, _, e⟩ | ⟨_, _, k, hk, _, _, _, _, e⟩
    · rw [e]; exact Nat.zero_le _
    · rw [e, List.length_append, way_len]; have := tl_le L x no k; omega
end Go.Proofs.Ytndbijifgalpbaa

namespace Go.Proofs.Ytndbijifgalpbaa
open Go.RowKit
theorem lv_mem {l : List Mb} (h : Rg l) {m : Mb} (hm : m ∈ l) : livesB l m.1 = true := (lives_iff fun y hy => (h.nos y hy).1).2 ⟨m, hm, rfl⟩
theorem lv_of {l : List Mb} (h : Rg l) {no : Int} (hl : livesB l no = true) : ∃ m ∈ l, m.1 = no := (lives_iff fun y hy => (h.nos y hy).1).1 hl
theorem get_mem {L : List N3} (h : RS L) {m : Mb} (hm : m ∈ memL L) : getL L m.1 ∈ L ∧ (getL L m.1).1.me = m := by
  obtain ⟨h1, h2⟩ := h.get (lv_mem h.ring hm)
  exact ⟨h1, h.ring.no (List.mem_map.2 ⟨_, h1, rfl⟩) hm h2⟩
theorem gone_dwn {l : List Mb} {n : Nd} {m : Mb} (hm : m ∈ knownN n) : goneB (dwn l n) m = !livesB l m.1 := by
  rw [Bool.eq_iff_iff, gone_iff]
  unfold dwn
  rw [List.mem_map]
  constructor
  · rintro ⟨y, hy, e⟩
    rw [← e]; exact (List.mem_filter.1 hy).2
  · intro h
    exact ⟨m, List.mem_filter.2 ⟨hm, h⟩, rfl⟩
theorem td1_alive {l : List Mb} {n : Nd} (h : RN n) (hm : livesB l n.me.1 = true) {z : Mb} (hz : z ∈ (td1 l n).fg ++ (td1 l n).sc) : livesB l z.1 = true := by
  rw [td1_eq h] at hz
  have key : ∀ r : List Mb, (∀ y ∈ r, y ∈ knownN n) → ∀ y ∈ dropL r (dwn l n), livesB l y.1 = true := fun r hr y hy => by
    obtain ⟨h1, h2⟩ := List.mem_filter.1 hy
    rw [gone_dwn (hr y h1), Bool.not_not] at h2
    exact h2
  rcases List.mem_append.1 hz with h1 | h1
  · exact key n.fg (fun y hy => List.mem_cons_of_mem _ (List.mem_append_right _ hy)) z h1
  · by_cases h0 : (dropL n.sc (dwn l n)).length = 0
    · rw [show (⟨n.me, drP n (dwn l n), orA (dropL n.sc (dwn l n)) n.me, dropL n.fg (dwn l n)⟩ : Nd).sc = [n.me] from orA_n h0] at h1
      rw [List.mem_singleton.1 h1]; exact hm
    · rw [show (⟨n.me, drP n (dwn l n), orA (dropL n.sc (dwn l n)) n.me, dropL n.fg (dwn l n)⟩ : Nd).sc = dropL n.sc (dwn l n) from orA_l h0] at h1
      exact key n.sc (fun y hy => List.mem_cons_of_mem _ (List.mem_append_left _ hy)) z h1
theorem nx_mem {n : Nd} (h : RN n) (x : Id) : nxM n x ∈ n.fg ++ n.sc := by
  have h1 : n.sc.getD 0 zMb ∈ n.fg ++ n.sc := List.mem_append_right _ (mb_mem (by have := h.len; omega))
  cases hi : inB x n.me.2 (n.sc.getD 0 zMb).2 with
  | true => rw [(nx_first (rn_iff.2 h) hi).1]; exact h1
  | false =>
    rw [(nx_cls (rn_iff.2 h) hi).1]
    by_cases hc : csE n.me.2 x (n.fg ++ n.sc) = 0
    · rw [nxC_y hc]; exact (cs_some (cs_ok hc)).2.1
    · rw [nxC_n hc]; exact h1
theorem an_lives {l : List Mb} {n : Nd} (x : Id) (h : RN n) (hm : livesB l n.me.1 = true) : livesB l (anM l n x).1 = true := by
  cases ho : anO l n x with
  | true => rw [(an_own ho).1]; exact hm
  | false => rw [(an_nx ho).1]; exact td1_alive h hm (nx_mem (td1_rn h) x)
/-- each that is asked lives -/
theorem now_lives {L : List N3} (h : RS L) (x : Id) {no : Int} (hl : livesB (memL L) no = true) : ∀ k, livesB (memL L) (nowK L x no k) = true
  | 0 => hl
  | k + 1 => by
    have ih := now_lives h x hl k
    obtain ⟨h1, h2⟩ := h.get ih
    exact an_lives x (h.rn _ h1) (by rw [h2]; exact ih)
/-! ### of an overlay that is stable -/
theorem stab_ov {L : List N3} (h : stabO L = true) : ovR L = true := by
  cases ho : ovR L with
  | true => rfl
  | false => rw [so_no ho] at h; cases h
theorem stab_at {L : List N3} (h : stabO L = true) (h1 : L.length ≠ 1) {y : N3} (hy : y ∈ L) : y.1.pr = befL (memL L) y.1.me ∧ y.1.sc = folL (memL L) y.1.me (min (L.length - 1) 4) := by
  obtain ⟨k, hk, rfl⟩ := n3_at hy
  have h2 := h
  unfold stabO at h2
  rw [decide_eq_false h1, Bool.and_eq_true] at h2
  have h3 := List.all_eq_true.1 h2.2 k (List.mem_range.2 hk)
  unfold stbB at h3
  simp only [Bool.and_eq_true, decide_eq_true_eq] at h3
  exact h3
theorem stab_one {L : List N3} (h : stabO L = true) (h1 : L.length = 1) {y : N3} (hy : y ∈ L) : y.1.pr = nMb ∧ y.1.sc = [y.1.me] := by
  obtain ⟨k, hk, rfl⟩ := n3_at hy
  rw [so_one (stab_ov h) hk h1] at h
  unfold oneB at h
  simp only [Bool.and_eq_true, decide_eq_true_eq] at h
  exact ⟨h.1, one_list.2 h.2⟩
/-- who does not live is none of those it follows: nothing of those is dropped -/
theorem td1_keeps {l : List Mb} {n : Nd} (hr : Rg l) (h : RN n) (hk : ∀ m ∈ knownN n, KnB l m) (hp : n.pr ∈ l) (hs : ∀ z ∈ n.sc, z ∈ l) :
    (td1 l n).me = n.me ∧ (td1 l n).pr = n.pr ∧ (td1 l n).sc = n.sc ∧ ∀ z ∈ (td1 l n).fg, z ∈ l := by
  rw [td1_eq h]
  refine ⟨rfl, ?_, ?_, fun z hz => ?_⟩
  · show drP n (dwn l n) = n.pr
    unfold drP
    rw [gone_dwn (by unfold knownN; exact List.mem_cons_self ..), lv_mem hr hp]; rfl
  · show orA (dropL n.sc (dwn l n)) n.me = n.sc
    have e : dropL n.sc (dwn l n) = n.sc := by
      unfold dropL
      rw [List.filter_eq_self]
      intro z hz
      rw [gone_dwn (by unfold knownN; exact List.mem_cons_of_mem _ (List.mem_append_left _ hz)), lv_mem hr (hs z hz)]; rfl
    rw [e]; exact orA_l (by have := h.len; omega)
  · obtain ⟨h1, h2⟩ := List.mem_filter.1 (show z ∈ dropL n.fg (dwn l n) from hz)
    have hz9 : z ∈ knownN n := by unfold knownN; exact List.mem_cons_of_mem _ (List.mem_append_right _ h1)
    rw [gone_dwn hz9, Bool.not_not] at h2
    obtain ⟨m, hm, e⟩ := lv_of hr h2
    rw [← hk z hz9 m hm e]; exact hm
/-- what a server answers, in one that is stable -/
theorem an_stab {L : List N3} (h : stabO L = true) {y : N3} (hy : y ∈ L) (x : Id) :
    (anB (memL L) y.1 x = true ∧ anM (memL L) y.1 x = ownL (memL L) x) ∨
    (anB (memL L) y.1 x = false ∧ anM (memL L) y.1 x ∈ memL L ∧ y.1.me ≠ ownL (memL L) x ∧ fd (anM (memL L) y.1 x).2 x < fd y.1.me.2 x) := by
  have hrk := rk_of (stab_ov h)
  have hg := hrk.rs.ring
  have hm : y.1.me ∈ memL L := List.mem_map.2 ⟨y, hy, rfl⟩
  have hrn := hrk.rs.rn y hy
  by_cases h1 : L.length = 1
  · obtain ⟨e1, e2⟩ := stab_one h h1 hy
    have hml : memL L = [y.1.me] := by
      obtain ⟨z, hz⟩ := List.length_eq_one_iff.1 h1
      rw [hz] at hy ⊢
      rw [List.mem_singleton.1 hy]; rfl
    have ho : ownL (memL L) x = y.1.me := by
      have := own_mem x (mem_pos hm)
      rw [hml] at this ⊢
      exact List.mem_singleton.1 this
    have hlv := lv_mem hg hm
    have et : (td1 (memL L) y.1).pr = nMb ∧ (td1 (memL L) y.1).sc = [y.1.me] ∧ (td1 (memL L) y.1).me = y.1.me := by
      rw [td1_eq hrn]
      refine ⟨?_, ?_, rfl⟩
      · show drP y.1 _ = nMb
        unfold drP
        rw [e1]
        cases goneB (dwn (memL L) y.1) nMb <;> rfl
      · show orA (dropL y.1.sc _) y.1.me = [y.1.me]
        have e : dropL y.1.sc (dwn (memL L) y.1) = y.1.sc := by
          unfold dropL
          rw [List.filter_eq_self]
          intro z hz
          rw [e2] at hz
          obtain rfl := List.mem_singleton.1 hz
          rw [gone_dwn (by unfold knownN; rw [e2]; exact List.mem_cons_of_mem _ (List.mem_append_left _ (List.mem_singleton.2 rfl))), hlv]; rfl
        rw [e, e2]; exact orA_l (by simp)
    have hao := ao_0 (x := x) (decide_eq_true et.1)
    have hnx := nx_first (x := x) (rn_iff.2 (td1_rn (l := memL L) hrn)) (by rw [et.2.1, et.2.2]; exact (inB_fd _ _ _).2 (.inl rfl))
    refine .inl ⟨by rw [(an_nx hao).2]; exact hnx.2.1, ?_⟩
    rw [(an_nx hao).1, hnx.1, et.2.1, ho]; rfl
  · obtain ⟨e1, e2⟩ := stab_at h h1 hy
    have h2 : 2 ≤ L.length := by have := List.length_pos_of_mem hy; omega
    have hll : (memL L).length = L.length := List.length_map ..
    have hs : ∀ z ∈ y.1.sc, z ∈ memL L := fun z hz => by
      rw [e2] at hz
      obtain ⟨i, hi, rfl⟩ := List.mem_map.1 hz
      exact nxtK_mem hm _
    obtain ⟨t0, t1, t2, t3⟩ := td1_keeps hg hrn (hrk.kn y hy) (by rw [e1]; exact bef_mem _ (by omega)) hs
    have h0 : y.1.sc.getD 0 zMb = nxtL (memL L) y.1.me := by
      rw [e2, fol_get _ _ (by omega)]; rfl
    have hpn : (td1 (memL L) y.1).pr ≠ nMb := by
      rw [t1, e1]
      intro e
      have := (hg.nos _ (bef_mem y.1.me (l := memL L) (by omega))).1
      rw [e] at this
      exact absurd this (by decide)
    have hao := ao_1 (x := x) (decide_eq_false hpn)
    rw [t0, t1, e1] at hao
    cases ho : inB x (befL (memL L) y.1.me).2 y.1.me.2 with
    | true =>
      rw [ho] at hao
      exact .inl ⟨(an_own hao).2, by rw [(an_own hao).1]; exact (own_in hg x hm).1 ho⟩
    | false =>
      rw [ho] at hao
      have hno : y.1.me ≠ ownL (memL L) x := fun e => by rw [(own_in hg x hm).2 e] at ho; cases ho
      have hxm : x ≠ y.1.me.2 := fun e => hno (own_is hg x hm fun z _ => by rw [e, fd_self]; exact Nat.zero_le _).symm
      have hrt := rn_iff.2 (td1_rn (l := memL L) hrn)
      cases hi : inB x y.1.me.2 (nxtL (memL L) y.1.me).2 with
      | true =>
        have hnx := nx_first (x := x) hrt (by rw [t0, t2, h0]; exact hi)
        refine .inl ⟨by rw [(an_nx hao).2]; exact hnx.2.1, ?_⟩
        rw [(an_nx hao).1, hnx.1, t2, h0]
        have := own_in hg x (nxt_mem hm)
        rw [bef_nxt hg hm] at this
        exact this.1 hi
      | false =>
        have hnx := nx_cls (x := x) hrt (by rw [t0, t2, h0]; exact hi)
        have hn1 : nxtL (memL L) y.1.me ≠ y.1.me := by
          obtain ⟨z, hz, hzn⟩ : ∃ z ∈ memL L, z ≠ y.1.me := by
            refine ⟨ownL (memL L) x, own_mem x (by omega), fun e => hno e.symm⟩
          exact (nxt_le hg hm hz hzn).1
        have hn2 : (nxtL (memL L) y.1.me).2 ≠ y.1.me.2 := fun e => hn1 (hg.id (nxt_mem hm) hm e)
        have hb : btw y.1.me.2 x (nxtL (memL L) y.1.me) = true := by
          rw [btw_iff]
          have hf : ¬ (y.1.me.2 = (nxtL (memL L) y.1.me).2 ∨ (x ≠ y.1.me.2 ∧ fd y.1.me.2 x ≤ fd y.1.me.2 (nxtL (memL L) y.1.me).2)) := fun e => by rw [(inB_fd _ _ _).2 e] at hi; cases hi
          have h5 : fd y.1.me.2 (nxtL (memL L) y.1.me).2 < fd y.1.me.2 x := Nat.lt_of_not_le fun e => hf (.inr ⟨hxm, e⟩)
          exact ⟨fun e => by rw [e] at h5; exact Nat.lt_irrefl _ h5, hn2, .inr h5⟩
        have hon : onW y.1.me.2 x ((td1 (memL L) y.1).fg ++ (td1 (memL L) y.1).sc) ≠ [] := on_some (List.mem_append_right _ (by rw [t2, ← h0]; exact mb_mem (by have := hrn.len; omega))) hb
        have hcs := cs_some hon
        have eM : anM (memL L) y.1 x = csM y.1.me.2 x ((td1 (memL L) y.1).fg ++ (td1 (memL L) y.1).sc) := by
          rw [(an_nx hao).1, hnx.1]
          have := nxC_y (n := td1 (memL L) y.1) (x := x) (by rw [t0]; exact hcs.1)
          rw [this, t0]
        refine .inr ⟨by rw [(an_nx hao).2]; exact hnx.2.1, ?_, hno, ?_⟩
        · rw [eM]
          rcases List.mem_append.1 hcs.2.1 with h9 | h9
          · exact t3 _ h9
          · exact hs _ (by rw [← t2]; exact h9)
        · rw [eM]; exact near_lt hon hxm
/-! ### the way there -/
/-- from the owner itself it is found at once -/
theorem stab_own {L : List N3} (h : stabO L = true) (x : Id) (h0 : 0 < L.length) :
    wkE L x (ownL (memL L) x).1 0 = 0 ∧ wkM L x (ownL (memL L) x).1 0 = ownL (memL L) x ∧ wkP L x (ownL (memL L) x).1 0 = [(ownL (memL L) x).1] := by
  have hrs := (rk_of (stab_ov h)).rs
  have hmem : ownL (memL L) x ∈ memL L := own_mem x (by rw [List.length_map]; exact h0)
  have hok : wkOk L 0 = true := by unfold wkOk; rw [stab_ov h]; rfl
  obtain ⟨g1, g2⟩ := get_mem hrs hmem
  have ha : lasK L x (ownL (memL L) x).1 0 = true ∧ ansK L x (ownL (memL L) x).1 0 = ownL (memL L) x := by
    rcases an_stab h g1 x with a | ⟨_, _, a3, _⟩
    · exact a
    · exact absurd g2 a3
  obtain ⟨w1, w2, w3⟩ := wl_own (hops := 0) (lv_mem hrs.ring hmem) (Nat.le_refl _) (fun j hj => absurd hj (Nat.not_lt_zero _)) ha.1
  have hok9 := wk_ok (x := x) (no := (ownL (memL L) x).1) hok
  refine ⟨hok9.1.trans w1, (hok9.2.1.trans w2).trans ha.2, ?_⟩
  rw [hok9.2.2]
  show wlP L x (ownL (memL L) x).1 0 = [(ownL (memL L) x).1]
  rw [w3]
  unfold tlK9
  rw [ha.2, decide_eq_true (show (ownL (memL L) x).1 = nowK L x (ownL (memL L) x).1 0 from rfl)]; rfl
end Go.Proofs.Ytndbijifgalpbaa

namespace Go.Proofs.Ytndbijifgalpbaa
open Go.RowKit
/-! ### the reference's answer of a walk, as a row of cells -/
section
variable {P : Program} {ρ : Operand → Value} {d : Option Tmp} {ty : TypeId} {pos : String} {af : Array Edge} {g : Option (Nat × Bool)} {x y z : Operand} {t : TypeId}
end
theorem nn_no (m : Mb) (b : Bool) : (nnArr m b)[0]? = some (.int .i64 m.1) := rfl
/-! ### what walks and keepers come to, in memory -/
abbrev intC (l : List Int) : List Value := l.map (Value.int .i64)
/-- the package's: one piece of own memory in which the way can be read -/
def WkP (w : World) (L : List N3) (x : Id) (no hops : Int) : Asrt := fun v w' => ∃ p ks, v = .tuple #[p, .agg (mbArr (wkM L x no hops)), .int .i64 (wkE L x no hops)] ∧ St w [.grp ks fun w9 => RdZ w9 p 1 (wkP L x no hops).length (intC (wkP L x no hops))] w'
/-! one that is alone finds itself -/
def idA7 : Id := setB 0#256 31 7
theorem al_walk (u v : Value) : wkE [(al3, u, v)] idA7 3 0 = 0 ∧ wkM [(al3, u, v)] idA7 3 0 = zA3c ∧ wkP [(al3, u, v)] idA7 3 0 = [3] := by
  have ho : ownL (memL [(al3, u, v)]) idA7 = zA3c := List.mem_singleton.1 (own_mem (l := [zA3c]) idA7 (by decide))
  have h := stab_own (al_stable u v) idA7 (Nat.succ_pos _)
  rw [ho] at h
  exact h
theorem al_rb (u v : Value) : RwB [(al3, u, v)] := ⟨fun x hx => by rw [List.mem_singleton.1 hx]; show [zA3c].length ≤ 300 ∧ ([] : List Mb).length ≤ 300; decide⟩
theorem al_rd {w : World} {va vb : Value} {N M : TypeId} {k : Nat} (h1 : Owns w k N 68 va [((al3, vb, nilV) : N3)].length (n3Cells [((al3, vb, nilV) : N3)])) (h2 : Owns w k M 33 vb [zA3c].length (mbCells [zA3c])) : RdO w va [((al3, vb, nilV) : N3)] :=
  ⟨RdZ.of_own h1, fun y hy => by rw [List.mem_singleton.1 hy]; exact ⟨RdZ.of_own h2, rd_nilM _⟩⟩
theorem ru_build_ov1 {P : Program} {ρ : Operand → Value} {d : Option Tmp} {ty : TypeId} {pos : String} {af : Array Edge} {g : Option (Nat × Bool)} {x : Operand} {t : TypeId} {v : Value} (S : Stt P t ovZ) (hv : v.cells.size = 1) (hc : v.cells.toList = [v]) (hx : ρ x = v) : RunsTo P ⟨d, .build t #[(0, x)], ty, pos, af, g⟩ ρ (.agg #[v]) := by
  have := ru_build_st (P := P) (ρ := ρ) (d := d) (ty := ty) (pos := pos) (af := af) (g := g) (parts := #[(0, x)]) S [(0, v)] (by simp [hx]) (fun i u hm => by
    simp only [List.mem_cons, Prod.mk.injEq, List.not_mem_nil, or_false] at hm
    obtain ⟨rfl, rfl⟩ := hm
    exact ⟨_, rfl, hv⟩) (D := [v]) (by
      show v.cells.toList ++ [] = _
      rw [hc]; rfl)
  exact this
/-! with more hops -/
theorem tm_lk (m : Int) : (-16 < m.tmod 16 ∧ m.tmod 16 < 16) ∧ (-17 < m.tmod 17 ∧ m.tmod 17 < 17) := ⟨⟨Int.lt_tmod_of_pos m (by decide), Int.tmod_lt_of_pos m (by decide)⟩, ⟨Int.lt_tmod_of_pos m (by decide), Int.tmod_lt_of_pos m (by decide)⟩⟩
theorem wkOk_is {L : List N3} {hops : Int} (h0 : 0 ≤ hops) (h1 : hops ≤ 16) : wkOk L hops = ovR L := by unfold wkOk; rw [decide_eq_true h0, decide_eq_true h1, Bool.and_true, Bool.and_true]
theorem wk_some {L : List N3} {x : Id} {no hops : Int} (h : wkE L x no hops = 0) (h0 : 0 ≤ hops) (h1 : hops ≤ 16) : ∃ k, k ≤ hops.toNat ∧ livesB (memL L) no = true ∧ ovR L = true ∧ (∀ j, j < k → endK L x no j = false) ∧ lasK L x no k = true ∧ wkM L x no hops = ansK L x no k ∧ wkP L x no hops = wayK L x no (k + 1) ++ tlK9 L x no k := by
  cases ho : ovR L with
  | false => rw [(wk_no (x := x) (no := no) ((wkOk_is (L := L) h0 h1).trans ho)).1] at h; exact absurd h (by decide)
  | true =>
    obtain ⟨e1, e2, e3⟩ := wk_ok (x := x) (no := no) ((wkOk_is (L := L) h0 h1).trans ho)
    rw [e1] at h
    rw [e2, e3]
    rcases wl_cases L x no hops.toNat with ⟨c, _⟩ | ⟨_, c1, k, c2, c3, c4, _, c5, c6⟩
    · exact absurd h c
    · exact ⟨k, c2, c1, rfl, c3, c4, c5, c6⟩
theorem wk_first {L : List N3} {x : Id} {no hops : Int} (h : wkE L x no hops = 0) (h0 : 0 ≤ hops) (h1 : hops ≤ 16) : 1 ≤ (wkP L x no hops).length ∧ ((wkP L x no hops).length : Int) ≤ hops + 2 ∧ (wkP L x no hops).getD 0 0 = no := by
  obtain ⟨k, hk, _, _, _, _, _, e⟩ := wk_some h h0 h1
  have := tl_le L x no k
  rw [e, List.length_append, way_len]
  refine ⟨by omega, by omega, ?_⟩
  rw [List.getD_eq_getElem?_getD, List.getElem?_append_left (by rw [way_len]; omega), ← List.getD_eq_getElem?_getD]
  exact way_get L x no (by omega)
theorem wk_moreY {L : List N3} {x : Id} {no hops : Int} (h : wkE L x no hops = 0) (h0 : 0 ≤ hops) (h1 : hops < 16) : wkE L x no (hops + 1) = 0 ∧ wkM L x no hops = wkM L x no (hops + 1) ∧ wkP L x no hops = wkP L x no (hops + 1) := by
  obtain ⟨k, hk, hl, ho, hj, he, e2, e3⟩ := wk_some h h0 (by omega)
  obtain ⟨f1, f2, f3⟩ := wk_ok (x := x) (no := no) ((wkOk_is (L := L) (hops := hops + 1) (by omega) (by omega)).trans ho)
  obtain ⟨g1, g2, g3⟩ := wl_own (hops := (hops + 1).toNat) hl (by omega) hj he
  exact ⟨f1.trans g1, e2.trans (f2.trans g2).symm, e3.trans (f3.trans g3).symm⟩
theorem wk_moreN {L : List N3} {x : Id} {no hops : Int} (h : wkE L x no hops ≠ 0) (h0 : 0 ≤ hops) (h1 : hops < 16) : wkP L x no hops = [] ∧ (wkE L x no hops = 9 ∨ wkE L x no hops = wkE L x no (hops + 1)) := by
  cases ho : ovR L with
  | false =>
    obtain ⟨a1, _, a3⟩ := wk_no (x := x) (no := no) ((wkOk_is (L := L) h0 (by omega : hops ≤ 16)).trans ho)
    exact ⟨a3, .inr (a1.trans (wk_no (x := x) (no := no) ((wkOk_is (L := L) (hops := hops + 1) (by omega) (by omega)).trans ho)).1.symm)⟩
  | true =>
    obtain ⟨e1, _, e3⟩ := wk_ok (x := x) (no := no) ((wkOk_is (L := L) h0 (by omega : hops ≤ 16)).trans ho)
    obtain ⟨f1, _, _⟩ := wk_ok (x := x) (no := no) ((wkOk_is (L := L) (hops := hops + 1) (by omega) (by omega)).trans ho)
    rw [e1] at h ⊢
    rw [e3, f1]
    cases hl : livesB (memL L) no with
    | false =>
      obtain ⟨a1, _, a3⟩ := wl_down (x := x) (hops := hops.toNat) hl
      exact ⟨a3, .inr (a1.trans (wl_down (x := x) (hops := (hops + 1).toNat) hl).1.symm)⟩
    | true =>
      cases hs : stpK L x no hops.toNat with
      | none =>
        obtain ⟨a1, _, a3⟩ := wl_hops (hops := hops.toNat) hl fun j hj => stp_n hs j (by omega)
        exact ⟨a3, .inl a1⟩
      | some k =>
        obtain ⟨b1, b2, b3⟩ := stp_y hs
        cases he : lasK L x no k with
        | true => exact absurd (wl_own hl b2 b3 he).1 h
        | false =>
          have hq : decide ((ansK L x no k).1 = nowK L x no k) = true := by unfold endK at b1; rw [he] at b1; exact b1
          obtain ⟨a1, _, a3⟩ := wl_lost hl b2 b3 he hq
          exact ⟨a3, .inr (a1.trans (wl_lost (hops := (hops + 1).toNat) hl (by omega) b3 he hq).1.symm)⟩
end Go.Proofs.Ytndbijifgalpbaa

namespace Go.Proofs.Ytndbijifgalpbaa
open Go.RowKit
/-! ### maps of numbers to values, as rows of keys and values -/
section
variable {P : Program} {ops : Array Oper} {Q : Act → World → Prop} {K : Act → World → Prop} {l : List Oper} {a : Act} {w w0 : World} {N : Nat} {L : List (Nat × Value)} {Df : List Deferred} {B : List Own} {d : Tmp} {ty : TypeId} {pos : String} {af : Array Edge} {x y z : Operand} {t kt et : TypeId}
end
/-! members by their numbers -/
/-! whom a walk finds lives, and so does each that is asked -/
/-! the way in one that is stable -/
end Go.Proofs.Ytndbijifgalpbaa

namespace Go.Proofs.Ytndbijifgalpbaa
open Go.RowKit
/-! ### the law of resources, each operation with something said beside its value (what a call hands out, and no value tells) -/
section
variable {P : Program} {ro : Option Nat} {ops : List Oper} {cls cons : List (List Nat)} {a0 : Act} {Q : Exit → Act → World → Prop} {w0 w1 : World} {γ : Type} [Inhabited γ]
def mskG (l : List Nat) (val : Nat → Value × γ) : Nat → Value × γ := fun j => bif l.any (Nat.beq j) then val j else (undef, default)
abbrev ResG (γ : Type) := (Nat → Value × γ) → List Own
abbrev FctG (γ : Type) := (Nat → Value × γ) → Prop
/-- the memory of operation j, or of what was there ahead -/
def resG (ops : List Oper) (cls : List (List Nat)) (Rs : List (ResG γ)) (I0 : List (List Own)) (val : Nat → Value × γ) (j : Nat) : List Own :=
  bif Nat.blt j ops.length then (Rs.getD j fun _ => []) (mskG (j :: cls.getD j []) val) else I0.getD (j - ops.length) []
def fctG (cls : List (List Nat)) (Fs : List (FctG γ)) (val : Nat → Value × γ) (j : Nat) : Prop := (Fs.getD j fun _ => True) (mskG (j :: cls.getD j []) val)
structure JG (ops : List Oper) (cls cons : List (List Nat)) (q : Nat) (Rs : List (ResG γ)) (I0 : List (List Own)) (Fs : List (FctG γ)) (Bs : List Own) (w0 : World) (a0 : Act) (m : Nat) (listed : Array Bool) (a : Act) (w : World) (val : Nat → Value × γ) : Prop where
  size : a.tmps.size = a0.tmps.size
  defers : a.defers = a0.defers
  lsize : listed.size = ops.length
  tail : ∀ i, m ≤ i → listed.getD i false = false
  done : ∀ i d, dstOf ops i = some d → listed.getD i false = true → a.tmps.getD d undef = (val i).1
  rest : ∀ t, (∀ j, dstOf ops j = some t → listed.getD j false = false) → a.tmps.getD t undef = a0.tmps.getD t undef
  closed : ∀ i, listed.getD i false = true → ∀ j ∈ cls.getD i [], listed.getD j false = true
  facts : ∀ i, listed.getD i false = true → fctG cls Fs val i
  st : St w0 (((List.range (ops.length + q)).filter (liveC ops cons fun j => listed.getD j false)).flatMap (resG ops cls Rs I0 val) ++ Bs) w
end
end Go.Proofs.Ytndbijifgalpbaa

namespace Go.Proofs.Ytndbijifgalpbaa
open Go.RowKit
/-! ### fingers set: what is stable stays such -/
/-! numbers of pairs -/
/-! what is handed out -/
theorem wkP_own {w w' : World} {N : TypeId} {L : List N3} {x : Id} {no hops : Int} {p : Value} {m : Mb} {e : Int} {l : List Int} (h : wkE L x no hops = e ∧ wkM L x no hops = m ∧ wkP L x no hops = l) (s : St w [.sl p N 1 l.length (intC l)] w') : WkP w L x no hops (.tuple #[p, .agg (mbArr m), .int .i64 e]) w' := by
  obtain ⟨rfl, rfl, rfl⟩ := h
  exact ⟨p, _, rfl, (St.group (A := [.sl p N 1 _ _]) (B := []) s).weak fun w9 h9 => RdZ.of_own (h9 (.sl p N 1 _ _) (by simp))⟩
section
variable {P : Program} {a : Act} {w w0 : World} {N : Nat} {L : List (Nat × Value)} {B : List Own} {fn : Func}
theorem e_tmp_row_tmp {T : Asrt} {p q r : Tmp} {t : TypeId} {b n : Nat} {C : Array Value} {u : TypeId} {V U : Value} (i : Nat) (hres : fn.results = #[.tmp q, .cell p t, .tmp r]) (h : Sl N a L) (s : St w0 B w) (hr : Row P t n) (hq : lk L q = some V) (hp : lk L p = some (.pointer (some ⟨b, 0, none⟩))) (hi : B[i]? = some (.blk b (.cells C u))) (hn : C.size = n)
    (hu : lk L r = some U) (hT : T (.tuple #[V, .agg C, U]) w) : bodyPost P fn (Ret w0 T) .ret a w := by
  refine ⟨h.defers, .tuple #[V, .agg C, U], ?_, _, rfl, hT, s.ext⟩
  have hp' : a.tmps[p]?.getD undef = .pointer (some ⟨b, 0, none⟩) := by simpa using h.holds p _ hp
  have hq' : a.tmps[q]?.getD undef = V := by simpa using h.holds q _ hq
  have hu' : a.tmps[r]?.getD undef = U := by simpa using h.holds r _ hu
  simp [results, hres, hp', hq', hu', asAddr, run_load_row hr w b C u (0, 0) (s.get i hi) hn]
end
end Go.Proofs.Ytndbijifgalpbaa

namespace Go.Proofs.Ytndbijifgalpbaa
open Go.RowKit
/-! ### where a server lies, and who does not live -/
def fnI (L : List N3) (no : Int) : Int := bif decide (ixL L no < L.length) then (ixL L no : Int) else -1
theorem fn_y {L : List N3} {no : Int} (h : ixL L no < L.length) : fnI L no = (ixL L no : Int) := by unfold fnI; rw [decide_eq_true h]; rfl
theorem fn_n {L : List N3} {no : Int} (h : ¬ ixL L no < L.length) : fnI L no = -1 := by unfold fnI; rw [decide_eq_false h]; rfl
theorem fn_of {L : List N3} {no r : Int} (h : (r = -1 ∧ ∀ x ∈ L, decide (x.1.me.1 = no) = false) ∨ ∃ k : Nat, k < L.length ∧ r = (k : Int) ∧ decide ((L.getD k z3).1.me.1 = no) = true ∧ ∀ i, i < k → decide ((L.getD i z3).1.me.1 = no) = false) : r = fnI L no := by
  rcases h with ⟨rfl, h⟩ | ⟨k, hk, rfl, h1, h2⟩
  · rw [fn_n]
    rw [ix_none (Nat.le_refl _) fun j hj => h _ (n3_mem hj)]
    exact Nat.lt_irrefl _
  · rw [fn_y] <;> rw [ix_at hk h2 h1]
    exact hk
theorem fn_lives {L : List N3} {no : Int} (hn : ∀ m ∈ memL L, 0 ≤ m.1) : decide (fnI L no < 0) = !livesB (memL L) no := by
  rw [← ix_lives hn]
  by_cases h : ixL L no < L.length
  · rw [fn_y h, decide_eq_true h, decide_eq_false (by omega)]; rfl
  · rw [fn_n h, decide_eq_false h]; rfl
def deadK (l : List Mb) (k : Nat) : List Int := ((List.range k).map fun (i : Nat) => (i : Int)).filter fun no => !livesB l no
theorem deadK_y {l : List Mb} {k : Nat} (h : livesB l (k : Int) = false) : deadK l (k + 1) = deadK l k ++ [(k : Int)] := by
  unfold deadK
  rw [List.range_succ, List.map_append, List.filter_append]
  simp [h]
theorem deadK_n {l : List Mb} {k : Nat} (h : livesB l (k : Int) = true) : deadK l (k + 1) = deadK l k := by
  unfold deadK
  rw [List.range_succ, List.map_append, List.filter_append]
  simp [h]
theorem deadK_le (l : List Mb) (k : Nat) : (deadK l k).length ≤ k := by
  unfold deadK
  refine Nat.le_trans (List.length_filter_le _ _) ?_
  rw [List.length_map, List.length_range]; exact Nat.le_refl _
theorem dead_gone {l : List Mb} {m : Mb} (h : 0 ≤ m.1 ∧ m.1 < 16) : goneB (deadK l 16) m = !livesB l m.1 := by
  rw [Bool.eq_iff_iff, gone_iff]
  unfold deadK
  rw [List.mem_filter]
  refine ⟨fun h9 => h9.2, fun h9 => ⟨List.mem_map.2 ⟨m.1.toNat, List.mem_range.2 (by omega), by omega⟩, h9⟩⟩
theorem dead_drop {l : List Mb} {n : Nd} (h : RN n) : drN n (deadK l 16) = td1 l n := by
  rw [(dr_ok _ (rn_iff.2 h)).1, td1_eq h]
  have hk : ∀ r : List Mb, (∀ y ∈ r, y ∈ knownN n) → (∀ y ∈ r, 0 ≤ y.1 ∧ y.1 < 16) → dropL r (deadK l 16) = dropL r (dwn l n) := fun r h1 h2 => by
    unfold dropL
    refine List.filter_congr fun y hy => ?_
    rw [dead_gone (h2 y hy), gone_dwn (h1 y hy)]
  have hp : drP n (deadK l 16) = drP n (dwn l n) := by
    unfold drP
    rcases h.pr with h9 | h9
    · rw [h9]; cases goneB (deadK l 16) nMb <;> cases goneB (dwn l n) nMb <;> rfl
    · rw [dead_gone h9.1, gone_dwn (by unfold knownN; exact List.mem_cons_self ..)]
  have hs := hk n.sc (fun y hy => by unfold knownN; exact List.mem_cons_of_mem _ (List.mem_append_left _ hy)) (fun y hy => by
    rcases h.sc with h9 | h9
    · rw [h9, List.mem_singleton] at hy; rw [hy]; exact h.me
    · exact h9.2.2.may y hy)
  have hf := hk n.fg (fun y hy => by unfold knownN; exact List.mem_cons_of_mem _ (List.mem_append_right _ hy)) (fun y hy => h.fg.2.may y hy)
  rw [hp, hs, hf]
theorem own_an {l : List Mb} {n : Nd} {x : Id} (h : RN n) : ownsN (td1 l n) x = anO l n x := by
  unfold ownsN anO
  rw [rn_iff.2 (td1_rn (l := l) h)]; rfl
theorem drop_sub {l : List Mb} {nos : List Int} {y : Mb} (h : y ∈ dropL l nos) : y ∈ l := (List.mem_filter.1 (show y ∈ l.filter _ from h)).1
/-- what a server answers is a member, if all that is known may be -/
theorem an_mem {L : List N3} (h : RK L) {y : N3} (hy : y ∈ L) (x : Id) : anM (memL L) y.1 x ∈ memL L := by
  have hg := h.rs.ring
  have hm : y.1.me ∈ memL L := List.mem_map.2 ⟨y, hy, rfl⟩
  cases ho : anO (memL L) y.1 x with
  | true => rw [(an_own ho).1]; exact hm
  | false =>
    rw [(an_nx ho).1]
    have hr := h.rs.rn y hy
    have hz := nx_mem (td1_rn (l := memL L) hr) x
    have hl := td1_alive hr (lv_mem hg hm) hz
    obtain ⟨m, hm9, e⟩ := lv_of hg hl
    obtain ⟨z, hzz⟩ : ∃ z, z = nxM (td1 (memL L) y.1) x := ⟨_, rfl⟩
    rw [← hzz] at hz hl e ⊢
    have hin : z = y.1.me ∨ z ∈ knownN y.1 := by
      rw [td1_eq hr] at hz
      rcases List.mem_append.1 hz with h1 | h1
      · exact .inr (by unfold knownN; exact List.mem_cons_of_mem _ (List.mem_append_right _ (drop_sub h1)))
      · have h1 : z ∈ orA (dropL y.1.sc (dwn (memL L) y.1)) y.1.me := h1
        by_cases h0 : (dropL y.1.sc (dwn (memL L) y.1)).length = 0
        · rw [orA_n h0] at h1; exact .inl (List.mem_singleton.1 h1)
        · rw [orA_l h0] at h1
          exact .inr (by unfold knownN; exact List.mem_cons_of_mem _ (List.mem_append_left _ (drop_sub h1)))
    rcases hin with h9 | h9
    · rw [h9]; exact hm
    · rw [← h.kn y hy _ h9 m hm9 e]; exact hm9
/-! ### steps: each an answer, compared to the one ahead -/
def prP (M0 : Mb) (P : Nat → Mb × Bool) : Nat → Mb × Bool | 0 => (M0, false) | d + 1 => P d
def stB (M0 : Mb) (P : Nat → Mb × Bool) (d : Nat) : Bool := decide (P d = prP M0 P d)
def qW (P : Nat → Mb × Bool) (hops d : Nat) : Bool := (P d).2 || decide (hops ≤ d)
theorem nn_f0 (m : Mb) (b : Bool) : ((nnArr m b).toList.drop 0).take 33 = (mbArr m).toList := by
  show ((mbL m ++ [Value.bool b]).drop 0).take 33 = mbL m
  rw [List.drop_zero, List.take_left' (mbL_len m)]
theorem nn_f1 (m : Mb) (b : Bool) : ((nnArr m b).toList.drop 33).take 1 = [Value.bool b] := by
  show ((mbL m ++ [Value.bool b]).drop 33).take 1 = [Value.bool b]
  rw [List.drop_left' (mbL_len m)]; rfl
theorem nnArr_inj {x y : Mb × Bool} (h : (nnArr x.1 x.2).toList = (nnArr y.1 y.2).toList) : x = y := by
  have h9 : mbL x.1 ++ [Value.bool x.2] = mbL y.1 ++ [Value.bool y.2] := h
  obtain ⟨h1, h2⟩ := List.append_inj h9 (by rw [mbL_len, mbL_len])
  refine Prod.ext (mbArr_inj h1) ?_
  simpa using h2
theorem nnEq (x y : Mb × Bool) : decide (x = y) = true ↔ (nnArr x.1 x.2).toList = (nnArr y.1 y.2).toList := by
  rw [decide_eq_true_eq]; exact ⟨fun h => by rw [h], nnArr_inj⟩
def askK (M0 : Mb) (P : Nat → Mb × Bool) (d : Nat) : List Int := (List.range d).map fun j => (prP M0 P j).1.1
def endW (l : List Int) (o : Int) : List Int := bif decide (l.getD (l.length - 1) 0 = o) then l else l ++ [o]
def jW (M0 : Mb) (P : Nat → Mb × Bool) (hops : Nat) : Nat → List Int | 0 => askK M0 P 1 | d + 1 => bif (P d).2 then endW (askK M0 P (d + 1)) (P d).1.1 else bif decide (hops ≤ d) then askK M0 P (d + 1) else askK M0 P (d + 2)
def jM (P : Nat → Mb × Bool) : Nat → Mb | 0 => zMb | d + 1 => bif (P d).2 then (P d).1 else zMb
def jE (P : Nat → Mb × Bool) (hops : Nat) : Nat → Int | 0 => 0 | d + 1 => bif (P d).2 then 0 else bif decide (hops ≤ d) then 9 else 0
def jU (P : Nat → Mb × Bool) (v : Value) : Nat → Value | 0 => nilV | d + 1 => bif (P d).2 then v else nilV
theorem ask_succ (M0 : Mb) (P : Nat → Mb × Bool) (d : Nat) : askK M0 P (d + 1) = askK M0 P d ++ [(prP M0 P d).1.1] := by simp [askK, List.range_succ]
theorem ask_two (M0 : Mb) (P : Nat → Mb × Bool) (d : Nat) : askK M0 P (d + 2) = askK M0 P (d + 1) ++ [(P d).1.1] := ask_succ M0 P (d + 1)
theorem ask_len (M0 : Mb) (P : Nat → Mb × Bool) (d : Nat) : (askK M0 P d).length = d := by simp [askK]
theorem ask_last (M0 : Mb) (P : Nat → Mb × Bool) (d : Nat) : (askK M0 P (d + 1)).getD d 0 = (prP M0 P d).1.1 := by
  rw [ask_succ, List.getD_eq_getElem?_getD, List.getElem?_append_right (by rw [ask_len]; exact Nat.le_refl _), ask_len, Nat.sub_self]; rfl
theorem q_no {P : Nat → Mb × Bool} {hops d : Nat} (h : ∀ j, j < d → qW P hops j = false) : ∀ j, j < d → (P j).2 = false ∧ j < hops := fun j hj => by
  have := h j hj
  unfold qW at this
  rw [Bool.or_eq_false_iff] at this
  exact ⟨this.1, by have := of_decide_eq_false this.2; omega⟩
theorem j_at {M0 : Mb} {P : Nat → Mb × Bool} {hops d : Nat} (v : Value) (h : ∀ j, j < d → qW P hops j = false) : jW M0 P hops d = askK M0 P (d + 1) ∧ jM P d = zMb ∧ jE P hops d = 0 ∧ jU P v d = nilV := by
  cases d with
  | zero => exact ⟨rfl, rfl, rfl, rfl⟩
  | succ d =>
    obtain ⟨h1, h2⟩ := q_no h d (Nat.lt_succ_self d)
    simp only [jW, jM, jE, jU, h1, decide_eq_false (show ¬ hops ≤ d by omega), cond_false, and_self]
theorem j_own {M0 : Mb} {P : Nat → Mb × Bool} {hops d : Nat} (v : Value) (h : (P d).2 = true) : jW M0 P hops (d + 1) = endW (askK M0 P (d + 1)) (P d).1.1 ∧ jM P (d + 1) = (P d).1 ∧ jE P hops (d + 1) = 0 ∧ jU P v (d + 1) = v := by
  simp only [jW, jM, jE, jU, h, cond_true, and_self]
theorem j_hops {M0 : Mb} {P : Nat → Mb × Bool} {hops d : Nat} (v : Value) (h : (P d).2 = false) (h1 : hops ≤ d) : jW M0 P hops (d + 1) = askK M0 P (d + 1) ∧ jM P (d + 1) = zMb ∧ jE P hops (d + 1) = 9 ∧ jU P v (d + 1) = nilV := by
  simp only [jW, jM, jE, jU, h, decide_eq_true h1, cond_true, cond_false, and_self]
theorem j_on {M0 : Mb} {P : Nat → Mb × Bool} {hops d : Nat} (v : Value) (h : (P d).2 = false) (h1 : ¬ hops ≤ d) : jW M0 P hops (d + 1) = askK M0 P (d + 2) ∧ jM P (d + 1) = zMb ∧ jE P hops (d + 1) = 0 ∧ jU P v (d + 1) = nilV := by
  simp only [jW, jM, jE, jU, h, decide_eq_false h1, cond_false, and_self]
/-- how it may end -/
def WlO (m : Nat) (P : Nat → Mb × Bool) (M0 : Mb) (hops : Nat) (W : List Int) (M : Mb) (E : Int) : Prop :=
  (W = [] ∧ M = zMb ∧ E = 13 ∧ ∀ j, j < m → qW P hops j = false) ∨ ∃ d, d < m ∧ (∀ j, j < d → qW P hops j = false) ∧
    ((W = endW (askK M0 P (d + 1)) (P d).1.1 ∧ M = (P d).1 ∧ E = 0 ∧ (P d).2 = true) ∨ (W = [] ∧ M = zMb ∧ E = 9 ∧ (P d).2 = false ∧ hops ≤ d))
def WlkP (w : World) (N : TypeId) (m : Nat) (P : Nat → Mb × Bool) (M0 : Mb) (hops : Nat) : Asrt := fun v w' => ∃ p W M E, v = .tuple #[p, .agg (mbArr M), .int .i64 E] ∧ WlO m P M0 hops W M E ∧ Owns w' w.heap.size N 1 p W.length (intC W)
def mW (L : List N3) (x : Id) (no : Int) (hops : Nat) : Nat := ((List.range (hops + 1)).findIdx fun d => stB (getL L no).1.me (fun d => (ansK L x no d, lasK L x no d)) d)
abbrev PW (L : List N3) (x : Id) (no : Int) : Nat → Mb × Bool := fun d => (ansK L x no d, lasK L x no d)
theorem mW_le (L : List N3) (x : Id) (no : Int) (hops : Nat) : mW L x no hops ≤ hops + 1 := by
  have := List.findIdx_le_length (p := fun d => stB (getL L no).1.me (PW L x no) d) (xs := List.range (hops + 1))
  rw [List.length_range] at this; exact this
theorem mW_lt {L : List N3} {x : Id} {no : Int} {hops d : Nat} (h : d < mW L x no hops) : stB (getL L no).1.me (PW L x no) d = false := by
  have := List.not_of_lt_findIdx (p := fun d => stB (getL L no).1.me (PW L x no) d) (xs := List.range (hops + 1)) h
  rw [List.getElem_range] at this
  exact this
theorem mW_at {L : List N3} {x : Id} {no : Int} {hops : Nat} (h : mW L x no hops ≤ hops) : stB (getL L no).1.me (PW L x no) (mW L x no hops) = true := by
  have h9 : (List.range (hops + 1)).findIdx (fun d => stB (getL L no).1.me (PW L x no) d) < (List.range (hops + 1)).length := by
    rw [List.length_range]; exact Nat.lt_succ_of_le h
  have := List.findIdx_getElem (w := h9)
  rw [List.getElem_range] at this
  exact this
theorem mW_end {L : List N3} {x : Id} {no : Int} {hops : Nat} (h : ∀ j, j < mW L x no hops → qW (PW L x no) hops j = false) : stB (getL L no).1.me (PW L x no) (mW L x no hops) = true := by
  by_cases h9 : mW L x no hops ≤ hops
  · exact mW_at h9
  · have := (q_no h hops (by omega)).2
    exact absurd this (Nat.lt_irrefl _)
theorem pr_now {L : List N3} {x : Id} {no : Int} (hno : (getL L no).1.me.1 = no) (d : Nat) : (prP (getL L no).1.me (PW L x no) d).1.1 = nowK L x no d := by
  cases d with
  | zero => exact hno
  | succ d => rfl
theorem ask_way {L : List N3} {x : Id} {no : Int} (hno : (getL L no).1.me.1 = no) (d : Nat) : askK (getL L no).1.me (PW L x no) d = wayK L x no d := by
  unfold askK wayK
  exact List.map_congr_left fun j _ => pr_now hno j
/-- what the steps come to is what the document says -/
theorem wl_of {L : List N3} (h : RK L) (x : Id) {no : Int} (hl : livesB (memL L) no = true) {hops : Nat} {W : List Int} {M : Mb} {E : Int} (hO : WlO (mW L x no hops) (PW L x no) (getL L no).1.me hops W M E) :
    wlE L x no hops = E ∧ wlM L x no hops = M ∧ wlP L x no hops = W := by
  have hrs := h.rs
  have hg := hrs.ring
  obtain ⟨hgm, hno⟩ := hrs.get hl
  have hmem : ∀ d, (prP (getL L no).1.me (PW L x no) d).1 ∈ memL L := fun d => by
    cases d with
    | zero => exact List.mem_map.2 ⟨_, hgm, rfl⟩
    | succ d =>
      obtain ⟨h1, _⟩ := hrs.get (now_lives hrs x hl d)
      exact an_mem h h1 x
  have hans : ∀ d, ansK L x no d ∈ memL L := fun d => hmem (d + 1)
  -- an early step leads farther
  have key : ∀ d, (∀ j, j < d → (PW L x no j).2 = false) → lasK L x no d = false → (stB (getL L no).1.me (PW L x no) d = decide ((ansK L x no d).1 = nowK L x no d)) := fun d hj hd => by
    have hp2 : (prP (getL L no).1.me (PW L x no) d).2 = false := by
      cases d with
      | zero => rfl
      | succ d => exact hj d (Nat.lt_succ_self d)
    unfold stB
    rw [Bool.eq_iff_iff, decide_eq_true_iff, decide_eq_true_iff]
    constructor
    · intro e
      rw [← pr_now hno d, ← e]
    · intro e
      refine Prod.ext (hg.no (hans d) (hmem d) (e.trans (pr_now hno d).symm)) ?_
      rw [hp2]; exact hd
  have goes : ∀ d, d ≤ mW L x no hops → (∀ j, j < d → (PW L x no j).2 = false) → ∀ j, j < d → endK L x no j = false := fun d hd h2 j hj => by
    have h3 := key j (fun i hi => h2 i (by omega)) (h2 j hj)
    rw [mW_lt (Nat.lt_of_lt_of_le hj hd)] at h3
    exact end_no (h2 j hj) h3.symm
  rcases hO with ⟨rfl, rfl, rfl, hq⟩ | ⟨d, hd, hq, hO⟩
  · have hq2 := fun j hj => (q_no hq j hj).1
    have hm : mW L x no hops ≤ hops := by
      rcases Nat.lt_or_ge hops (mW L x no hops) with h9 | h9
      · exact absurd (q_no hq hops h9).2 (Nat.lt_irrefl _)
      · exact h9
    have hat := mW_at hm
    have hP := of_decide_eq_true hat
    have hlas : lasK L x no (mW L x no hops) = false := by
      have : (PW L x no (mW L x no hops)).2 = (prP (getL L no).1.me (PW L x no) (mW L x no hops)).2 := by rw [hP]
      show (PW L x no (mW L x no hops)).2 = false
      rw [this]
      generalize mW L x no hops = m at hq2
      cases m with
      | zero => rfl
      | succ d => exact hq2 d (Nat.lt_succ_self d)
    exact wl_lost hl hm (goes _ (Nat.le_refl _) hq2) hlas (by rw [← key _ hq2 hlas]; exact hat)
  · have hq2 := fun j hj => (q_no hq j hj).1
    have hml := mW_le L x no hops
    rcases hO with ⟨rfl, rfl, rfl, he⟩ | ⟨rfl, rfl, rfl, he, hh⟩
    · obtain ⟨h1, h2, h3⟩ := wl_own hl (show d ≤ hops by omega) (goes d (by omega) hq2) he
      refine ⟨h1, h2, h3.trans ?_⟩
      unfold endW tlK9
      rw [ask_len, Nat.add_sub_cancel, ask_last, pr_now hno, ask_way hno]
      by_cases e : (ansK L x no d).1 = nowK L x no d
      · rw [decide_eq_true e, decide_eq_true e.symm]; exact List.append_nil _
      · rw [decide_eq_false e, decide_eq_false fun e9 => e e9.symm]; rfl
    · obtain rfl : d = hops := by omega
      refine wl_hops hl fun j hj => ?_
      rcases Nat.lt_or_ge j d with h9 | h9
      · exact goes d (by omega) hq2 j h9
      · obtain rfl : j = d := by omega
        have h3 := key j hq2 he
        rw [mW_lt hd] at h3
        exact end_no he h3.symm
theorem wlk_left {w w' : World} {N : TypeId} {m d : Nat} {P : Nat → Mb × Bool} {M0 : Mb} {hops : Nat} {vr : Value} (hd : d < m) (hqd : qW P hops d = true) (hq : ∀ j, j < d → qW P hops j = false)
    (hO : Owns w' w.heap.size N 1 vr (jW M0 P hops (d + 1)).length (intC (jW M0 P hops (d + 1)))) (hN : Owns w' w.heap.size N 1 nilV ([] : List Int).length (intC [])) :
    WlkP w N m P M0 hops (.tuple #[jU P vr (d + 1), .agg (mbArr (jM P (d + 1))), .int .i64 (jE P hops (d + 1))]) w' := by
  cases ho : (P d).2 with
  | true =>
    obtain ⟨j1, j2, j3, j4⟩ := j_own (M0 := M0) (hops := hops) vr ho
    rw [j1] at hO
    rw [j2, j3, j4]
    exact ⟨_, _, _, _, rfl, .inr ⟨d, hd, hq, .inl ⟨rfl, rfl, rfl, ho⟩⟩, hO⟩
  | false =>
    have hh : hops ≤ d := by
      unfold qW at hqd
      rw [ho, Bool.false_or] at hqd
      exact of_decide_eq_true hqd
    obtain ⟨j1, j2, j3, j4⟩ := j_hops (M0 := M0) vr ho hh
    rw [j2, j3, j4]
    exact ⟨_, _, _, _, rfl, .inr ⟨d, hd, hq, .inr ⟨rfl, rfl, rfl, ho, hh⟩⟩, hN⟩
/-! ### who keeps -/
section
variable {P : Program} {fn : Func} {w w0 : World} {N : Nat} {a : Act} {L : List (Nat × Value)} {B : List Own}
/-- the call's end behind a range over a function: results that lie in a cell, a row and a cell -/
theorem e_cell_row_cell_MS {T : Asrt} {p q r : Tmp} {b b' b'' n D : Nat} {C C' C'' : Array Value} {V U : Value} {t t' t'' u u' u'' : TypeId} (i i' i'' j : Nat) (hres : fn.results = #[.cell p t, .cell q t', .cell r t'']) (h : Sl N a L [{ target := .collected D, args := #[] }]) (s : St w0 B w) (ho : One P t) (hr : Row P t' n) (ho2 : One P t'')
    (hp : lk L p = some (.pointer (some ⟨b, 0, none⟩))) (hq : lk L q = some (.pointer (some ⟨b', 0, none⟩))) (hr9 : lk L r = some (.pointer (some ⟨b'', 0, none⟩)))
    (hj : B[j]? = some (.blk D (.deferred (some [])))) (hij : (B.set j (.blk D (.deferred none)))[i]? = some (.blk b (.cells C u))) (hij' : (B.set j (.blk D (.deferred none)))[i']? = some (.blk b' (.cells C' u'))) (hij2 : (B.set j (.blk D (.deferred none)))[i'']? = some (.blk b'' (.cells C'' u'')))
    (hC : C[0]? = some V) (hn : C'.size = n) (hC2 : C''[0]? = some U) (hT : ∀ w', St w0 (B.set j (.blk D (.deferred none))) w' → T (.tuple #[V, .agg C', U]) w') : bodyPostM (FR none) 0 P fn (Ret w0 T) .ret a w := by
  show LeavesInM (FR none) 0 P fn a.tmps (Ret w0 T) a.defers .returning w
  rw [h.defers]
  have s2 := s.putObj j hj (.deferred none)
  refine ⟨by simp, .inl ⟨D, _, rfl, run_takeDeferred (s.get j hj), ?_⟩⟩
  have hp' : a.tmps[p]?.getD undef = .pointer (some ⟨b, 0, none⟩) := by simpa using h.holds p _ hp
  have hq' : a.tmps[q]?.getD undef = .pointer (some ⟨b', 0, none⟩) := by simpa using h.holds q _ hq
  have hr' : a.tmps[r]?.getD undef = .pointer (some ⟨b'', 0, none⟩) := by simpa using h.holds r _ hr9
  have hc : (w.putObj D (.deferred none)).cell? ⟨b, 0, none⟩ = some V := by rw [cell_of_row _ b 0 C u (0, 0) (s2.get i hij)]; exact hC
  have hc2 : (w.putObj D (.deferred none)).cell? ⟨b'', 0, none⟩ = some U := by rw [cell_of_row _ b'' 0 C'' u'' (0, 0) (s2.get i'' hij2)]; exact hC2
  refine ⟨.tuple #[V, .agg C', U], ?_, _, rfl, hT _ s2, s2.ext⟩
  simp [results, hres, hp', hq', hr', asAddr, run_load_row hr _ b' C' u' (0, 0) (s2.get i' hij') hn, run_load_one ho _ _ hc, run_load_one ho2 _ _ hc2]
end
end Go.Proofs.Ytndbijifgalpbaa
