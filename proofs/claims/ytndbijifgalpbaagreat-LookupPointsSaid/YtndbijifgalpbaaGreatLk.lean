/- What a server answers, whom a walk asks and where it ends; in an overlay that is stable it ends with the one that it belongs to; maps of numbers to values; regions that draw their order, with something said beside a value; no Go in it. -/
import Derived.Test.YtndbijifgalpbaaGreatOw
set_option linter.unusedVariables false
set_option linter.unusedSimpArgs false
set_option linter.unusedSectionVars false
namespace Go.Proofs.YtndbijifgalpbaaGreat
open Go.RowKit
/-! ### what a server answers for an identifier, having dropped who does not live -/
def anO (l : List Mb) (n : Nd) (x : Id) : Bool := !decide ((td1 l n).pr = nMb) && inB x (td1 l n).pr.2 (td1 l n).me.2
def anM (l : List Mb) (n : Nd) (x : Id) : Mb := bif anO l n x then n.me else nxM (td1 l n) x
def anB (l : List Mb) (n : Nd) (x : Id) : Bool := anO l n x || nxB (td1 l n) x
theorem an_own {l : List Mb} {n : Nd} {x : Id} (h : anO l n x = true) : anM l n x = n.me ∧ anB l n x = true := by unfold anM anB; rw [h]; exact ⟨rfl, rfl⟩
theorem an_nx {l : List Mb} {n : Nd} {x : Id} (h : anO l n x = false) : anM l n x = nxM (td1 l n) x ∧ anB l n x = nxB (td1 l n) x := by unfold anM anB; rw [h]; exact ⟨rfl, rfl⟩
theorem ao_0 {l : List Mb} {n : Nd} {x : Id} (h : decide ((td1 l n).pr = nMb) = true) : anO l n x = false := by unfold anO; rw [h]; rfl
theorem ao_1 {l : List Mb} {n : Nd} {x : Id} (h : decide ((td1 l n).pr = nMb) = false) : anO l n x = inB x (td1 l n).pr.2 (td1 l n).me.2 := by unfold anO; rw [h]; rfl
/-! ### a walk: whom it asks, where it ends -/
def nowK (L : List N3) (x : Id) (no : Int) : Nat → Int
  | 0 => no
  | k + 1 => (anM (memL L) (getL L (nowK L x no k)).1 x).1
def ansK (L : List N3) (x : Id) (no : Int) (k : Nat) : Mb := anM (memL L) (getL L (nowK L x no k)).1 x
def lasK (L : List N3) (x : Id) (no : Int) (k : Nat) : Bool := anB (memL L) (getL L (nowK L x no k)).1 x
def endK (L : List N3) (x : Id) (no : Int) (k : Nat) : Bool := lasK L x no k || decide ((ansK L x no k).1 = nowK L x no k)
def stpK (L : List N3) (x : Id) (no : Int) (hops : Nat) : Option Nat := (List.range (hops + 1)).find? (endK L x no)
def wayK (L : List N3) (x : Id) (no : Int) (k : Nat) : List Int := (List.range k).map (nowK L x no)
def tlK9 (L : List N3) (x : Id) (no : Int) (k : Nat) : List Int := bif decide ((ansK L x no k).1 = nowK L x no k) then [] else [(ansK L x no k).1]
def wlE (L : List N3) (x : Id) (no : Int) (hops : Nat) : Int :=
  bif livesB (memL L) no then (match stpK L x no hops with | some k => bif lasK L x no k then 0 else 13 | none => 9) else 10
def wlM (L : List N3) (x : Id) (no : Int) (hops : Nat) : Mb := bif decide (wlE L x no hops = 0) then ansK L x no ((stpK L x no hops).getD 0) else zMb
def wlP (L : List N3) (x : Id) (no : Int) (hops : Nat) : List Int :=
  bif decide (wlE L x no hops = 0) then wayK L x no ((stpK L x no hops).getD 0 + 1) ++ tlK9 L x no ((stpK L x no hops).getD 0) else []
theorem way_len (L : List N3) (x : Id) (no : Int) (k : Nat) : (wayK L x no k).length = k := by simp [wayK]
theorem stp_at {L : List N3} {x : Id} {no : Int} {hops k : Nat} (hk : k ≤ hops) (h : ∀ j, j < k → endK L x no j = false) (he : endK L x no k = true) : stpK L x no hops = some k := by
  unfold stpK
  rw [List.find?_range_eq_some]
  exact ⟨he, List.mem_range.2 (by omega), fun j hj => by rw [h j hj]; rfl⟩
theorem stp_no {L : List N3} {x : Id} {no : Int} {hops : Nat} (h : ∀ j, j ≤ hops → endK L x no j = false) : stpK L x no hops = none := by
  unfold stpK
  rw [List.find?_eq_none]
  intro j hj
  rw [h j (by have := List.mem_range.1 hj; omega)]
  decide
theorem wl_down {L : List N3} {x : Id} {no : Int} {hops : Nat} (h : livesB (memL L) no = false) : wlE L x no hops = 10 ∧ wlM L x no hops = zMb ∧ wlP L x no hops = [] := by
  have h0 : wlE L x no hops = 10 := by unfold wlE; rw [h]; rfl
  unfold wlM wlP; rw [h0]; exact ⟨rfl, rfl, rfl⟩
theorem wl_own {L : List N3} {x : Id} {no : Int} {hops k : Nat} (hl : livesB (memL L) no = true) (hk : k ≤ hops) (h : ∀ j, j < k → endK L x no j = false) (he : lasK L x no k = true) :
    wlE L x no hops = 0 ∧ wlM L x no hops = ansK L x no k ∧ wlP L x no hops = wayK L x no (k + 1) ++ tlK9 L x no k := by
  have hs := stp_at hk h (by unfold endK; rw [he]; rfl)
  have h0 : wlE L x no hops = 0 := by unfold wlE; rw [hl, hs]; show (bif lasK L x no k then (0 : Int) else 13) = 0; rw [he]; rfl
  unfold wlM wlP; rw [h0, hs]; exact ⟨rfl, rfl, rfl⟩
theorem wl_lost {L : List N3} {x : Id} {no : Int} {hops k : Nat} (hl : livesB (memL L) no = true) (hk : k ≤ hops) (h : ∀ j, j < k → endK L x no j = false) (he : lasK L x no k = false) (hq : decide ((ansK L x no k).1 = nowK L x no k) = true) :
    wlE L x no hops = 13 ∧ wlM L x no hops = zMb ∧ wlP L x no hops = [] := by
  have hs := stp_at hk h (by unfold endK; rw [he, hq]; rfl)
  have h0 : wlE L x no hops = 13 := by unfold wlE; rw [hl, hs]; show (bif lasK L x no k then (0 : Int) else 13) = 13; rw [he]; rfl
  unfold wlM wlP; rw [h0]; exact ⟨rfl, rfl, rfl⟩
theorem wl_hops {L : List N3} {x : Id} {no : Int} {hops : Nat} (hl : livesB (memL L) no = true) (h : ∀ j, j < hops + 1 → endK L x no j = false) : wlE L x no hops = 9 ∧ wlM L x no hops = zMb ∧ wlP L x no hops = [] := by
  have hs := stp_no (hops := hops) fun j hj => h j (by omega)
  have h0 : wlE L x no hops = 9 := by unfold wlE; rw [hl, hs]; rfl
  unfold wlM wlP; rw [h0]; exact ⟨rfl, rfl, rfl⟩
theorem end_no {L : List N3} {x : Id} {no : Int} {k : Nat} (he : lasK L x no k = false) (hq : decide ((ansK L x no k).1 = nowK L x no k) = false) : endK L x no k = false := by unfold endK; rw [he, hq]; rfl
/-! ### what is told from outside -/
def wkOk (L : List N3) (hops : Int) : Bool := ovR L && (decide (0 ≤ hops) && decide (hops ≤ 16))
def wkE (L : List N3) (x : Id) (no hops : Int) : Int := bif wkOk L hops then wlE L x no hops.toNat else 1
def wkM (L : List N3) (x : Id) (no hops : Int) : Mb := bif wkOk L hops then wlM L x no hops.toNat else zMb
def wkP (L : List N3) (x : Id) (no hops : Int) : List Int := bif wkOk L hops then wlP L x no hops.toNat else []
theorem wk_no {L : List N3} {x : Id} {no hops : Int} (h : wkOk L hops = false) : wkE L x no hops = 1 ∧ wkM L x no hops = zMb ∧ wkP L x no hops = [] := by unfold wkE wkM wkP; rw [h]; exact ⟨rfl, rfl, rfl⟩
theorem wk_ok {L : List N3} {x : Id} {no hops : Int} (h : wkOk L hops = true) : wkE L x no hops = wlE L x no hops.toNat ∧ wkM L x no hops = wlM L x no hops.toNat ∧ wkP L x no hops = wlP L x no hops.toNat := by unfold wkE wkM wkP; rw [h]; exact ⟨rfl, rfl, rfl⟩
end Go.Proofs.YtndbijifgalpbaaGreat

namespace Go.Proofs.YtndbijifgalpbaaGreat
open Go.RowKit
theorem lv_mem {l : List Mb} (h : Rg l) {m : Mb} (hm : m ∈ l) : livesB l m.1 = true := (lives_iff fun y hy => (h.nos y hy).1).2 ⟨m, hm, rfl⟩
theorem lv_of {l : List Mb} (h : Rg l) {no : Int} (hl : livesB l no = true) : ∃ m ∈ l, m.1 = no := (lives_iff fun y hy => (h.nos y hy).1).1 hl
theorem get_mem {L : List N3} (h : RS L) {m : Mb} (hm : m ∈ memL L) : getL L m.1 ∈ L ∧ (getL L m.1).1.me = m := by
  obtain ⟨h1, h2⟩ := h.get (lv_mem h.ring hm)
  exact ⟨h1, h.ring.no (List.mem_map.2 ⟨_, h1, rfl⟩) hm h2⟩
theorem gone_dwn {l : List Mb} {n : Nd} {m : Mb} (hm : m ∈ knownN n) : goneB (dwn l n) m = !livesB l m.1 := by
  rw [Bool.eq_iff_iff, gone_iff]
  unfold dwn
  rw [List.mem_map]
  constructor
  · rintro ⟨y, hy, e⟩
    rw [← e]; exact (List.mem_filter.1 hy).2
  · intro h
    exact ⟨m, List.mem_filter.2 ⟨hm, h⟩, rfl⟩
theorem td1_alive {l : List Mb} {n : Nd} (h : RN n) (hm : livesB l n.me.1 = true) {z : Mb} (hz : z ∈ (td1 l n).fg ++ (td1 l n).sc) : livesB l z.1 = true := by
  rw [td1_eq h] at hz
  have key : ∀ r : List Mb, (∀ y ∈ r, y ∈ knownN n) → ∀ y ∈ dropL r (dwn l n), livesB l y.1 = true := fun r hr y hy => by
    obtain ⟨h1, h2⟩ := List.mem_filter.1 hy
    rw [gone_dwn (hr y h1), Bool.not_not] at h2
    exact h2
  rcases List.mem_append.1 hz with h1 | h1
  · exact key n.fg (fun y hy => List.mem_cons_of_mem _ (List.mem_append_right _ hy)) z h1
  · by_cases h0 : (dropL n.sc (dwn l n)).length = 0
    · rw [show (⟨n.me, drP n (dwn l n), orA (dropL n.sc (dwn l n)) n.me, dropL n.fg (dwn l n)⟩ : Nd).sc = [n.me] from orA_n h0] at h1
      rw [List.mem_singleton.1 h1]; exact hm
    · rw [show (⟨n.me, drP n (dwn l n), orA (dropL n.sc (dwn l n)) n.me, dropL n.fg (dwn l n)⟩ : Nd).sc = dropL n.sc (dwn l n) from orA_l h0] at h1
      exact key n.sc (fun y hy => List.mem_cons_of_mem _ (List.mem_append_left _ hy)) z h1
theorem nx_mem {n : Nd} (h : RN n) (x : Id) : nxM n x ∈ n.fg ++ n.sc := by
  have h1 : n.sc.getD 0 zMb ∈ n.fg ++ n.sc := List.mem_append_right _ (mb_mem (by have := h.len; omega))
  cases hi : inB x n.me.2 (n.sc.getD 0 zMb).2 with
  | true => rw [(nx_first (rn_iff.2 h) hi).1]; exact h1
  | false =>
    rw [(nx_cls (rn_iff.2 h) hi).1]
    by_cases hc : csE n.me.2 x (n.fg ++ n.sc) = 0
    · rw [nxC_y hc]; exact (cs_some (cs_ok hc)).2.1
    · rw [nxC_n hc]; exact h1
theorem an_lives {l : List Mb} {n : Nd} (x : Id) (h : RN n) (hm : livesB l n.me.1 = true) : livesB l (anM l n x).1 = true := by
  cases ho : anO l n x with
  | true => rw [(an_own ho).1]; exact hm
  | false => rw [(an_nx ho).1]; exact td1_alive h hm (nx_mem (td1_rn h) x)
/-- each that is asked lives -/
theorem now_lives {L : List N3} (h : RS L) (x : Id) {no : Int} (hl : livesB (memL L) no = true) : ∀ k, livesB (memL L) (nowK L x no k) = true
  | 0 => hl
  | k + 1 => by
    have ih := now_lives h x hl k
    obtain ⟨h1, h2⟩ := h.get ih
    exact an_lives x (h.rn _ h1) (by rw [h2]; exact ih)
/-! ### of an overlay that is stable -/
theorem stab_ov {L : List N3} (h : stabO L = true) : ovR L = true := by
  cases ho : ovR L with
  | true => rfl
  | false => rw [so_no ho] at h; cases h
theorem stab_at {L : List N3} (h : stabO L = true) (h1 : L.length ≠ 1) {y : N3} (hy : y ∈ L) : y.1.pr = befL (memL L) y.1.me ∧ y.1.sc = folL (memL L) y.1.me (min (L.length - 1) 4) := by
  obtain ⟨k, hk, rfl⟩ := n3_at hy
  have h2 := h
  unfold stabO at h2
  rw [decide_eq_false h1, Bool.and_eq_true] at h2
  have h3 := List.all_eq_true.1 h2.2 k (List.mem_range.2 hk)
  unfold stbB at h3
  simp only [Bool.and_eq_true, decide_eq_true_eq] at h3
  exact h3
theorem stab_one {L : List N3} (h : stabO L = true) (h1 : L.length = 1) {y : N3} (hy : y ∈ L) : y.1.pr = nMb ∧ y.1.sc = [y.1.me] := by
  obtain ⟨k, hk, rfl⟩ := n3_at hy
  rw [so_one (stab_ov h) hk h1] at h
  unfold oneB at h
  simp only [Bool.and_eq_true, decide_eq_true_eq] at h
  exact ⟨h.1, one_list.2 h.2⟩
/-- who does not live is none of those it follows: nothing of those is dropped -/
theorem td1_keeps {l : List Mb} {n : Nd} (hr : Rg l) (h : RN n) (hk : ∀ m ∈ knownN n, KnB l m) (hp : n.pr ∈ l) (hs : ∀ z ∈ n.sc, z ∈ l) :
    (td1 l n).me = n.me ∧ (td1 l n).pr = n.pr ∧ (td1 l n).sc = n.sc ∧ ∀ z ∈ (td1 l n).fg, z ∈ l := by
  rw [td1_eq h]
  refine ⟨rfl, ?_, ?_, fun z hz => ?_⟩
  · show drP n (dwn l n) = n.pr
    unfold drP
    rw [gone_dwn (by unfold knownN; exact List.mem_cons_self ..), lv_mem hr hp]; rfl
  · show orA (dropL n.sc (dwn l n)) n.me = n.sc
    have e : dropL n.sc (dwn l n) = n.sc := by
      unfold dropL
      rw [List.filter_eq_self]
      intro z hz
      rw [gone_dwn (by unfold knownN; exact List.mem_cons_of_mem _ (List.mem_append_left _ hz)), lv_mem hr (hs z hz)]; rfl
    rw [e]; exact orA_l (by have := h.len; omega)
  · obtain ⟨h1, h2⟩ := List.mem_filter.1 (show z ∈ dropL n.fg (dwn l n) from hz)
    have hz9 : z ∈ knownN n := by unfold knownN; exact List.mem_cons_of_mem _ (List.mem_append_right _ h1)
    rw [gone_dwn hz9, Bool.not_not] at h2
    obtain ⟨m, hm, e⟩ := lv_of hr h2
    rw [← hk z hz9 m hm e]; exact hm
/-- what a server answers, in one that is stable -/
theorem an_stab {L : List N3} (h : stabO L = true) {y : N3} (hy : y ∈ L) (x : Id) :
    (anB (memL L) y.1 x = true ∧ anM (memL L) y.1 x = ownL (memL L) x) ∨
    (anB (memL L) y.1 x = false ∧ anM (memL L) y.1 x ∈ memL L ∧ y.1.me ≠ ownL (memL L) x ∧ fd (anM (memL L) y.1 x).2 x < fd y.1.me.2 x) := by
  have hrk := rk_of (stab_ov h)
  have hg := hrk.rs.ring
  have hm : y.1.me ∈ memL L := List.mem_map.2 ⟨y, hy, rfl⟩
  have hrn := hrk.rs.rn y hy
  by_cases h1 : L.length = 1
  · obtain ⟨e1, e2⟩ := stab_one h h1 hy
    have hml : memL L = [y.1.me] := by
      obtain ⟨z, hz⟩ := List.length_eq_one_iff.1 h1
      rw [hz] at hy ⊢
      rw [List.mem_singleton.1 hy]; rfl
    have ho : ownL (memL L) x = y.1.me := by
      have := own_mem x (mem_pos hm)
      rw [hml] at this ⊢
      exact List.mem_singleton.1 this
    have hlv := lv_mem hg hm
    have et : (td1 (memL L) y.1).pr = nMb ∧ (td1 (memL L) y.1).sc = [y.1.me] ∧ (td1 (memL L) y.1).me = y.1.me := by
      rw [td1_eq hrn]
      refine ⟨?_, ?_, rfl⟩
      · show drP y.1 _ = nMb
        unfold drP
        rw [e1]
        cases goneB (dwn (memL L) y.1) nMb <;> rfl
      · show orA (dropL y.1.sc _) y.1.me = [y.1.me]
        have e : dropL y.1.sc (dwn (memL L) y.1) = y.1.sc := by
          unfold dropL
          rw [List.filter_eq_self]
          intro z hz
          rw [e2] at hz
          obtain rfl := List.mem_singleton.1 hz
          rw [gone_dwn (by unfold knownN; rw [e2]; exact List.mem_cons_of_mem _ (List.mem_append_left _ (List.mem_singleton.2 rfl))), hlv]; rfl
        rw [e, e2]; exact orA_l (by simp)
    have hao := ao_0 (x := x) (decide_eq_true et.1)
    have hnx := nx_first (x := x) (rn_iff.2 (td1_rn (l := memL L) hrn)) (by rw [et.2.1, et.2.2]; exact (inB_fd _ _ _).2 (.inl rfl))
    refine .inl ⟨by rw [(an_nx hao).2]; exact hnx.2.1, ?_⟩
    rw [(an_nx hao).1, hnx.1, et.2.1, ho]; rfl
  · obtain ⟨e1, e2⟩ := stab_at h h1 hy
    have h2 : 2 ≤ L.length := by have := List.length_pos_of_mem hy; omega
    have hll : (memL L).length = L.length := List.length_map ..
    have hs : ∀ z ∈ y.1.sc, z ∈ memL L := fun z hz => by
      rw [e2] at hz
      obtain ⟨i, hi, rfl⟩ := List.mem_map.1 hz
      exact nxtK_mem hm _
    obtain ⟨t0, t1, t2, t3⟩ := td1_keeps hg hrn (hrk.kn y hy) (by rw [e1]; exact bef_mem _ (by omega)) hs
    have h0 : y.1.sc.getD 0 zMb = nxtL (memL L) y.1.me := by
      rw [e2, fol_get _ _ (by omega)]; rfl
    have hpn : (td1 (memL L) y.1).pr ≠ nMb := by
      rw [t1, e1]
      intro e
      have := (hg.nos _ (bef_mem y.1.me (l := memL L) (by omega))).1
      rw [e] at this
      exact absurd this (by decide)
    have hao := ao_1 (x := x) (decide_eq_false hpn)
    rw [t0, t1, e1] at hao
    cases ho : inB x (befL (memL L) y.1.me).2 y.1.me.2 with
    | true =>
      rw [ho] at hao
      exact .inl ⟨(an_own hao).2, by rw [(an_own hao).1]; exact (own_in hg x hm).1 ho⟩
    | false =>
      rw [ho] at hao
      have hno : y.1.me ≠ ownL (memL L) x := fun e => by rw [(own_in hg x hm).2 e] at ho; cases ho
      have hxm : x ≠ y.1.me.2 := fun e => hno (own_is hg x hm fun z _ => by rw [e, fd_self]; exact Nat.zero_le _).symm
      have hrt := rn_iff.2 (td1_rn (l := memL L) hrn)
      cases hi : inB x y.1.me.2 (nxtL (memL L) y.1.me).2 with
      | true =>
        have hnx := nx_first (x := x) hrt (by rw [t0, t2, h0]; exact hi)
        refine .inl ⟨by rw [(an_nx hao).2]; exact hnx.2.1, ?_⟩
        rw [(an_nx hao).1, hnx.1, t2, h0]
        have := own_in hg x (nxt_mem hm)
        rw [bef_nxt hg hm] at this
        exact this.1 hi
      | false =>
        have hnx := nx_cls (x := x) hrt (by rw [t0, t2, h0]; exact hi)
        have hn1 : nxtL (memL L) y.1.me ≠ y.1.me := by
          obtain ⟨z, hz, hzn⟩ : ∃ z ∈ memL L, z ≠ y.1.me := by
            refine ⟨ownL (memL L) x, own_mem x (by omega), fun e => hno e.symm⟩
          exact (nxt_le hg hm hz hzn).1
        have hn2 : (nxtL (memL L) y.1.me).2 ≠ y.1.me.2 := fun e => hn1 (hg.id (nxt_mem hm) hm e)
        have hb : btw y.1.me.2 x (nxtL (memL L) y.1.me) = true := by
          rw [btw_iff]
          have hf : ¬ (y.1.me.2 = (nxtL (memL L) y.1.me).2 ∨ (x ≠ y.1.me.2 ∧ fd y.1.me.2 x ≤ fd y.1.me.2 (nxtL (memL L) y.1.me).2)) := fun e => by rw [(inB_fd _ _ _).2 e] at hi; cases hi
          have h5 : fd y.1.me.2 (nxtL (memL L) y.1.me).2 < fd y.1.me.2 x := Nat.lt_of_not_le fun e => hf (.inr ⟨hxm, e⟩)
          exact ⟨fun e => by rw [e] at h5; exact Nat.lt_irrefl _ h5, hn2, .inr h5⟩
        have hon : onW y.1.me.2 x ((td1 (memL L) y.1).fg ++ (td1 (memL L) y.1).sc) ≠ [] := on_some (List.mem_append_right _ (by rw [t2, ← h0]; exact mb_mem (by have := hrn.len; omega))) hb
        have hcs := cs_some hon
        have eM : anM (memL L) y.1 x = csM y.1.me.2 x ((td1 (memL L) y.1).fg ++ (td1 (memL L) y.1).sc) := by
          rw [(an_nx hao).1, hnx.1]
          have := nxC_y (n := td1 (memL L) y.1) (x := x) (by rw [t0]; exact hcs.1)
          rw [this, t0]
        refine .inr ⟨by rw [(an_nx hao).2]; exact hnx.2.1, ?_, hno, ?_⟩
        · rw [eM]
          rcases List.mem_append.1 hcs.2.1 with h9 | h9
          · exact t3 _ h9
          · exact hs _ (by rw [← t2]; exact h9)
        · rw [eM]; exact near_lt hon hxm
/-! ### the way there -/
theorem pig : ∀ {p l : List Mb}, p.Nodup → (∀ y ∈ p, y ∈ l) → p.length ≤ l.length
  | [], _, _, _ => Nat.zero_le _
  | a :: t, l, hn, hs => by
    obtain ⟨h1, h2⟩ := List.nodup_cons.1 hn
    have ha := hs a (List.mem_cons_self ..)
    have := pig (l := l.erase a) h2 fun y hy => (List.mem_erase_of_ne fun e => h1 (by rw [← e]; exact hy)).2 (hs y (List.mem_cons_of_mem _ hy))
    rw [List.length_erase_of_mem ha] at this
    have := List.length_pos_of_mem ha
    rw [List.length_cons]; omega
def mbK (L : List N3) (x : Id) (no : Int) (k : Nat) : Mb := (getL L (nowK L x no k)).1.me
theorem stab_run {L : List N3} (h : stabO L = true) (x : Id) {m : Mb} (hm : m ∈ memL L) : ∀ k, (∀ j, j < k → lasK L x m.1 j = false) →
    mbK L x m.1 k ∈ memL L ∧ (mbK L x m.1 k).1 = nowK L x m.1 k ∧ (∀ j, j < k → fd (mbK L x m.1 k).2 x < fd (mbK L x m.1 j).2 x) ∧ ∀ j, j < k → mbK L x m.1 j ≠ ownL (memL L) x ∧ endK L x m.1 j = false := by
  have hrs := (rk_of (stab_ov h)).rs
  intro k
  induction k with
  | zero =>
    intro _
    obtain ⟨h1, h2⟩ := get_mem hrs hm
    exact ⟨by show (getL L m.1).1.me ∈ _; rw [h2]; exact hm, by show (getL L m.1).1.me.1 = m.1; rw [h2], fun j hj => absurd hj (Nat.not_lt_zero _), fun j hj => absurd hj (Nat.not_lt_zero _)⟩
  | succ k ih =>
    intro hj
    obtain ⟨i1, i2, i3, i4⟩ := ih fun j h9 => hj j (by omega)
    obtain ⟨g1, g2⟩ := get_mem hrs i1
    rw [i2] at g1
    have hl := hj k (by omega)
    rcases an_stab h g1 x with ⟨a1, _⟩ | ⟨_, a2, a3, a4⟩
    · exact absurd (hl.symm.trans a1) (by decide)
    · obtain ⟨n1, n2⟩ := get_mem hrs a2
      have e : mbK L x m.1 (k + 1) = ansK L x m.1 k := n2
      have hne : decide ((ansK L x m.1 k).1 = nowK L x m.1 k) = false := by
        refine decide_eq_false fun e9 => ?_
        have : ansK L x m.1 k = mbK L x m.1 k := hrs.ring.no a2 i1 (e9.trans i2.symm)
        have h9 : fd (ansK L x m.1 k).2 x < fd (mbK L x m.1 k).2 x := a4
        rw [this] at h9; exact Nat.lt_irrefl _ h9
      refine ⟨by rw [e]; exact a2, by rw [e]; rfl, fun j h9 => ?_, fun j h9 => ?_⟩
      · rw [e]
        rcases Nat.lt_or_ge j k with h8 | h8
        · exact Nat.lt_trans a4 (i3 j h8)
        · obtain rfl : j = k := by omega
          exact a4
      · rcases Nat.lt_or_ge j k with h8 | h8
        · exact i4 j h8
        · obtain rfl : j = k := by omega
          exact ⟨a3, end_no hl hne⟩
theorem run_inj {L : List N3} (h : stabO L = true) (x : Id) {m : Mb} (hm : m ∈ memL L) {k : Nat} (hj : ∀ j, j < k → lasK L x m.1 j = false) : ((List.range (k + 1)).map (mbK L x m.1)).Nodup := by
  show List.Pairwise (· ≠ ·) _
  rw [List.pairwise_map]
  refine List.Pairwise.imp_of_mem ?_ (List.pairwise_lt_range (n := k + 1))
  intro i j _ hj9 hij e
  have := (stab_run h x hm j fun i9 h9 => hj i9 (by have := List.mem_range.1 hj9; omega)).2.2.1 i hij
  rw [e] at this; exact Nat.lt_irrefl _ this
theorem stab_ends {L : List N3} (h : stabO L = true) (x : Id) {m : Mb} (hm : m ∈ memL L) : ∃ k, k + 1 ≤ (memL L).length ∧ lasK L x m.1 k = true ∧ ∀ j, j < k → lasK L x m.1 j = false := by
  cases hf : (List.range (memL L).length).find? (lasK L x m.1) with
  | some k =>
    rw [List.find?_range_eq_some] at hf
    refine ⟨k, by have := List.mem_range.1 hf.2.1; omega, hf.1, fun j hj => ?_⟩
    have := hf.2.2 j hj
    cases he : lasK L x m.1 j with
    | false => rfl
    | true => rw [he] at this; cases this
  | none =>
    exfalso
    rw [List.find?_eq_none] at hf
    have hall : ∀ j, j < (memL L).length → lasK L x m.1 j = false := fun j hj => by
      have := hf j (List.mem_range.2 hj)
      cases he : lasK L x m.1 j with
      | false => rfl
      | true => rw [he] at this; exact absurd rfl this
    have hd := run_inj h x hm hall
    have := pig (l := memL L) hd fun y hy => by
      obtain ⟨j, hj, rfl⟩ := List.mem_map.1 hy
      exact (stab_run h x hm j fun i hi => hall i (by have := List.mem_range.1 hj; omega)).1
    rw [List.length_map, List.length_range] at this
    omega
/-- P11.3: in a stable overlay the owner is found with 16 hops, none is asked twice, each is nearer -/
theorem stab_finds {L : List N3} (h : stabO L = true) (x : Id) {m : Mb} (hm : m ∈ memL L) :
    wkE L x m.1 16 = 0 ∧ wkM L x m.1 16 = ownL (memL L) x ∧ ∃ k, wkP L x m.1 16 = wayK L x m.1 (k + 1) ++ tlK9 L x m.1 k ∧ (wkP L x m.1 16).length ≤ (memL L).length ∧
      ansK L x m.1 k = ownL (memL L) x ∧ (∀ j, j ≤ k → mbK L x m.1 j ∈ memL L ∧ (mbK L x m.1 j).1 = nowK L x m.1 j) ∧ ∀ j, j < k → fd (mbK L x m.1 (j + 1)).2 x < fd (mbK L x m.1 j).2 x := by
  have hrs := (rk_of (stab_ov h)).rs
  have hok : wkOk L 16 = true := by unfold wkOk; rw [stab_ov h]; rfl
  obtain ⟨k, hk, he, hall⟩ := stab_ends h x hm
  have h16 := hrs.ring.len
  have hr := stab_run h x hm k hall
  obtain ⟨w1, w2, w3⟩ := wl_own (hops := 16) (lv_mem hrs.ring hm) (by omega) (fun j hj => (hr.2.2.2 j hj).2) he
  obtain ⟨g1, g2⟩ := get_mem hrs hr.1
  rw [hr.2.1] at g1
  have ho : ansK L x m.1 k = ownL (memL L) x := by
    rcases an_stab h g1 x with ⟨_, a2⟩ | ⟨a1, _⟩
    · exact a2
    · exact absurd (he.symm.trans a1) (by decide)
  have hok9 := wk_ok (x := x) (no := m.1) hok
  refine ⟨hok9.1.trans w1, (hok9.2.1.trans w2).trans ho, k, hok9.2.2.trans w3, ?_, ho, fun j hj => ?_, fun j hj => ?_⟩
  · rw [hok9.2.2]; show (wlP L x m.1 16).length ≤ _; rw [w3, List.length_append, way_len]
    have hd := run_inj h x hm hall
    have hs : ∀ y ∈ (List.range (k + 1)).map (mbK L x m.1), y ∈ memL L := fun y hy => by
      obtain ⟨j, hj, rfl⟩ := List.mem_map.1 hy
      exact (stab_run h x hm j fun i hi => hall i (by have := List.mem_range.1 hj; omega)).1
    unfold tlK9
    by_cases hq : (ansK L x m.1 k).1 = nowK L x m.1 k
    · rw [decide_eq_true hq]
      have := pig hd hs
      rw [List.length_map, List.length_range] at this
      show k + 1 + 0 ≤ _
      omega
    · rw [decide_eq_false hq]
      have hmem : ownL (memL L) x ∈ memL L := own_mem x (List.length_pos_of_mem hm)
      have hnot : ∀ y ∈ (List.range (k + 1)).map (mbK L x m.1), y ≠ ownL (memL L) x := fun y hy => by
        obtain ⟨j, hj, rfl⟩ := List.mem_map.1 hy
        rcases Nat.lt_or_ge j k with h8 | h8
        · exact (hr.2.2.2 j h8).1
        · obtain rfl : j = k := by have := List.mem_range.1 hj; omega
          intro e
          rw [ho, ← e] at hq
          exact hq hr.2.1
      have := pig (p := (List.range (k + 1)).map (mbK L x m.1) ++ [ownL (memL L) x]) (l := memL L) (List.nodup_append.2 ⟨hd, by simp, fun a ha b hb => by rw [List.mem_singleton.1 hb]; exact hnot a ha⟩) fun y hy => by
        rcases List.mem_append.1 hy with h9 | h9
        · exact hs y h9
        · rw [List.mem_singleton.1 h9]; exact hmem
      rw [List.length_append, List.length_map, List.length_range] at this
      exact this
  · have := stab_run h x hm j fun i hi => hall i (by omega)
    exact ⟨this.1, this.2.1⟩
  · exact (stab_run h x hm (j + 1) fun i hi => hall i (by omega)).2.2.1 j (by omega)
/-- from the owner itself it is found at once -/
theorem stab_own {L : List N3} (h : stabO L = true) (x : Id) (h0 : 0 < L.length) :
    wkE L x (ownL (memL L) x).1 0 = 0 ∧ wkM L x (ownL (memL L) x).1 0 = ownL (memL L) x ∧ wkP L x (ownL (memL L) x).1 0 = [(ownL (memL L) x).1] := by
  have hrs := (rk_of (stab_ov h)).rs
  have hmem : ownL (memL L) x ∈ memL L := own_mem x (by rw [List.length_map]; exact h0)
  have hok : wkOk L 0 = true := by unfold wkOk; rw [stab_ov h]; rfl
  obtain ⟨g1, g2⟩ := get_mem hrs hmem
  have ha : lasK L x (ownL (memL L) x).1 0 = true ∧ ansK L x (ownL (memL L) x).1 0 = ownL (memL L) x := by
    rcases an_stab h g1 x with a | ⟨_, _, a3, _⟩
    · exact a
    · exact absurd g2 a3
  obtain ⟨w1, w2, w3⟩ := wl_own (hops := 0) (lv_mem hrs.ring hmem) (Nat.le_refl _) (fun j hj => absurd hj (Nat.not_lt_zero _)) ha.1
  have hok9 := wk_ok (x := x) (no := (ownL (memL L) x).1) hok
  refine ⟨hok9.1.trans w1, (hok9.2.1.trans w2).trans ha.2, ?_⟩
  rw [hok9.2.2]
  show wlP L x (ownL (memL L) x).1 0 = [(ownL (memL L) x).1]
  rw [w3]
  unfold tlK9
  rw [ha.2, decide_eq_true (show (ownL (memL L) x).1 = nowK L x (ownL (memL L) x).1 0 from rfl)]; rfl
end Go.Proofs.YtndbijifgalpbaaGreat

namespace Go.Proofs.YtndbijifgalpbaaGreat
open Go.RowKit
/-! ### the reference's answer of a walk, as a row of cells -/
section
variable {P : Program} {ρ : Operand → Value} {d : Option Tmp} {ty : TypeId} {pos : String} {af : Array Edge} {g : Option (Nat × Bool)} {x y z : Operand} {t : TypeId}
end
theorem nn_no (m : Mb) (b : Bool) : (nnArr m b)[0]? = some (.int .i64 m.1) := rfl
/-! ### what walks and keepers come to, in memory -/
abbrev intC (l : List Int) : List Value := l.map (Value.int .i64)
/-- the package's: one piece of own memory in which the way can be read -/
def WkP (w : World) (L : List N3) (x : Id) (no hops : Int) : Asrt := fun v w' => ∃ p ks, v = .tuple #[p, .agg (mbArr (wkM L x no hops)), .int .i64 (wkE L x no hops)] ∧ St w [.grp ks fun w9 => RdZ w9 p 1 (wkP L x no hops).length (intC (wkP L x no hops))] w'
/-! one that is alone finds itself -/
def idA7 : Id := setB 0#256 31 7
theorem al_walk (u v : Value) : wkE [(al3, u, v)] idA7 3 0 = 0 ∧ wkM [(al3, u, v)] idA7 3 0 = zA3c ∧ wkP [(al3, u, v)] idA7 3 0 = [3] := by
  have ho : ownL (memL [(al3, u, v)]) idA7 = zA3c := List.mem_singleton.1 (own_mem (l := [zA3c]) idA7 (by decide))
  have h := stab_own (al_stable u v) idA7 (Nat.succ_pos _)
  rw [ho] at h
  exact h
theorem al_rb (u v : Value) : RwB [(al3, u, v)] := ⟨fun x hx => by rw [List.mem_singleton.1 hx]; show [zA3c].length ≤ 300 ∧ ([] : List Mb).length ≤ 300; decide⟩
theorem al_rd {w : World} {va vb : Value} {N M : TypeId} {k : Nat} (h1 : Owns w k N 68 va [((al3, vb, nilV) : N3)].length (n3Cells [((al3, vb, nilV) : N3)])) (h2 : Owns w k M 33 vb [zA3c].length (mbCells [zA3c])) : RdO w va [((al3, vb, nilV) : N3)] :=
  ⟨RdZ.of_own h1, fun y hy => by rw [List.mem_singleton.1 hy]; exact ⟨RdZ.of_own h2, rd_nilM _⟩⟩
theorem ru_build_ov1 {P : Program} {ρ : Operand → Value} {d : Option Tmp} {ty : TypeId} {pos : String} {af : Array Edge} {g : Option (Nat × Bool)} {x : Operand} {t : TypeId} {v : Value} (S : Stt P t ovZ) (hv : v.cells.size = 1) (hc : v.cells.toList = [v]) (hx : ρ x = v) : RunsTo P ⟨d, .build t #[(0, x)], ty, pos, af, g⟩ ρ (.agg #[v]) := by
  have := ru_build_st (P := P) (ρ := ρ) (d := d) (ty := ty) (pos := pos) (af := af) (g := g) (parts := #[(0, x)]) S [(0, v)] (by simp [hx]) (fun i u hm => by
    simp only [List.mem_cons, Prod.mk.injEq, List.not_mem_nil, or_false] at hm
    obtain ⟨rfl, rfl⟩ := hm
    exact ⟨_, rfl, hv⟩) (D := [v]) (by
      show v.cells.toList ++ [] = _
      rw [hc]; rfl)
  exact this
/-! with more hops -/
end Go.Proofs.YtndbijifgalpbaaGreat

namespace Go.Proofs.YtndbijifgalpbaaGreat
open Go.RowKit
/-! ### maps of numbers to values, as rows of keys and values -/
section
variable {P : Program} {ops : Array Oper} {Q : Act → World → Prop} {K : Act → World → Prop} {l : List Oper} {a : Act} {w w0 : World} {N : Nat} {L : List (Nat × Value)} {Df : List Deferred} {B : List Own} {d : Tmp} {ty : TypeId} {pos : String} {af : Array Edge} {x y z : Operand} {t kt et : TypeId}
end
/-! members by their numbers -/
/-! whom a walk finds lives, and so does each that is asked -/
/-! the way in one that is stable -/
theorem own_both {l : List Mb} (h : Rg l) (h0 : 0 < l.length) (x : Id) : ownM l x = ownL l x ∧ ownE l = 0 := by
  unfold ownM ownE
  rw [(rg_iff l).2 h, decide_eq_false (by omega)]
  exact ⟨rfl, rfl⟩
end Go.Proofs.YtndbijifgalpbaaGreat

namespace Go.Proofs.YtndbijifgalpbaaGreat
open Go.RowKit
/-! ### the law of resources, each operation with something said beside its value (what a call hands out, and no value tells) -/
section
variable {P : Program} {ro : Option Nat} {ops : List Oper} {cls cons : List (List Nat)} {a0 : Act} {Q : Exit → Act → World → Prop} {w0 w1 : World} {γ : Type} [Inhabited γ]
def mskG (l : List Nat) (val : Nat → Value × γ) : Nat → Value × γ := fun j => bif l.any (Nat.beq j) then val j else (undef, default)
def upvG (val : Nat → Value × γ) (i : Nat) (v : Value × γ) : Nat → Value × γ := fun j => bif Nat.beq j i then v else val j
theorem mskG_congr {l : List Nat} {val val' : Nat → Value × γ} (h : ∀ j ∈ l, val j = val' j) : mskG l val = mskG l val' := by
  funext j
  unfold mskG
  cases hb : l.any (Nat.beq j) with
  | false => rfl
  | true =>
    obtain ⟨x, hx, he⟩ := List.any_eq_true.1 hb
    obtain rfl : j = x := by simpa using he
    exact h j hx
theorem upvG_same (val : Nat → Value × γ) (i : Nat) (v : Value × γ) : upvG val i v i = v := by unfold upvG; rw [show Nat.beq i i = true by simp]; rfl
theorem upvG_other (val : Nat → Value × γ) {i j : Nat} (v : Value × γ) (h : j ≠ i) : upvG val i v j = val j := by
  unfold upvG
  cases hb : Nat.beq j i with
  | false => rfl
  | true => exact absurd (by simpa using hb) h
abbrev ResG (γ : Type) := (Nat → Value × γ) → List Own
abbrev FctG (γ : Type) := (Nat → Value × γ) → Prop
/-- the memory of operation j, or of what was there ahead -/
def resG (ops : List Oper) (cls : List (List Nat)) (Rs : List (ResG γ)) (I0 : List (List Own)) (val : Nat → Value × γ) (j : Nat) : List Own :=
  bif Nat.blt j ops.length then (Rs.getD j fun _ => []) (mskG (j :: cls.getD j []) val) else I0.getD (j - ops.length) []
def fctG (cls : List (List Nat)) (Fs : List (FctG γ)) (val : Nat → Value × γ) (j : Nat) : Prop := (Fs.getD j fun _ => True) (mskG (j :: cls.getD j []) val)
def slotG (ops : List Oper) (cl : List Nat) (a0 a : Act) (val : Nat → Value × γ) (t : Tmp) : Prop :=
  match writer ops cl t with
  | some j => a.tmps.getD t undef = (val j).1
  | none => a.tmps.getD t undef = a0.tmps.getD t undef
/-- one operation's duty -/
def ObG (P : Program) (ops : List Oper) (cls cons : List (List Nat)) (Rs : List (ResG γ)) (I0 : List (List Own)) (Fs : List (FctG γ)) (Bs : List Own) (w0 : World) (a0 : Act) (i : Nat) (o : Oper) : Prop :=
  ∀ (a : Act) (w : World) (val : Nat → Value × γ) (E : List Own), a.tmps.size = a0.tmps.size → a.defers = a0.defers →
    (∀ t ∈ o.looksAt ops.toArray, slotG ops (cls.getD i []) a0 a val t) →
    (∀ j ∈ cls.getD i [], fctG cls Fs val j) → St w0 ((cons.getD i []).flatMap (resG ops cls Rs I0 val) ++ (Bs ++ E)) w →
    Lst P ops.toArray (fun a' w' => ∃ v : Value × γ, (∀ d, o.dst = some d → a'.tmps.getD d undef = v.1) ∧ fctG cls Fs (upvG val i v) i ∧ St w0 (resG ops cls Rs I0 (upvG val i v) i ++ (Bs ++ E)) w') [o] a w
structure JG (ops : List Oper) (cls cons : List (List Nat)) (q : Nat) (Rs : List (ResG γ)) (I0 : List (List Own)) (Fs : List (FctG γ)) (Bs : List Own) (w0 : World) (a0 : Act) (m : Nat) (listed : Array Bool) (a : Act) (w : World) (val : Nat → Value × γ) : Prop where
  size : a.tmps.size = a0.tmps.size
  defers : a.defers = a0.defers
  lsize : listed.size = ops.length
  tail : ∀ i, m ≤ i → listed.getD i false = false
  done : ∀ i d, dstOf ops i = some d → listed.getD i false = true → a.tmps.getD d undef = (val i).1
  rest : ∀ t, (∀ j, dstOf ops j = some t → listed.getD j false = false) → a.tmps.getD t undef = a0.tmps.getD t undef
  closed : ∀ i, listed.getD i false = true → ∀ j ∈ cls.getD i [], listed.getD j false = true
  facts : ∀ i, listed.getD i false = true → fctG cls Fs val i
  st : St w0 (((List.range (ops.length + q)).filter (liveC ops cons fun j => listed.getD j false)).flatMap (resG ops cls Rs I0 val) ++ Bs) w
theorem wp_regionG {q rid m : Nat} {Rs : List (ResG γ)} {I0 : List (List Own)} {Fs : List (FctG γ)} {Bs : List Own} (hm : P.follows .mixedOrders = true) (hok : okRegC ops cls cons q a0.tmps.size = true) (hsel : Region.noSelect ops.toArray = true)
    (hml : m ≤ ops.length) (hT : ∀ i, m ≤ i → i < ops.length → ∀ j, j < i → j ∈ cls.getD i [])
    (hob : ∀ i o, i < m → ops[i]? = some o → ObG P ops cls cons Rs I0 Fs Bs w0 a0 i o)
    (s : St w0 (((List.range (ops.length + q)).filter (liveC ops cons fun _ => false)).flatMap (resG ops cls Rs I0 fun _ => (undef, default)) ++ Bs) w1)
    (hfin : ∀ (b : Act) (w : World) (val : Nat → Value × γ), b.tmps.size = a0.tmps.size → b.defers = a0.defers → (∀ i d, i < m → dstOf ops i = some d → b.tmps.getD d undef = (val i).1) → (∀ t, (∀ i, i < m → dstOf ops i ≠ some t) → b.tmps.getD t undef = a0.tmps.getD t undef) →
      (∀ i, i < m → fctG cls Fs val i) → St w0 (((List.range (ops.length + q)).filter (liveC ops cons fun j => Nat.blt j m)).flatMap (resG ops cls Rs I0 val) ++ Bs) w → Lst P ops.toArray (Q .normal) (ops.drop m) b w) :
    (Code.region rid ops.toArray true).wpIn (FR ro) 0 P Q a0 w1 := by
  refine wpIn_region_any hm ?_
  have hend : ∀ (listed : Array Bool) (a : Act) (w : World) (val : Nat → Value × γ), JG ops cls cons q Rs I0 Fs Bs w0 a0 m listed a w val → (∀ i, i < m → listed.getD i false = true) → ∀ fuel, ops.length = m + fuel → wpAnyIn (FR ro) 0 P .any ops.toArray Q fuel listed a w := by
    intro listed a w val I hall fuel hfu
    refine wpAny_tailC hok hT fuel m listed a w hfu (Nat.le_refl _) I.lsize hall I.tail ?_
    have hfd : fuel = (ops.drop m).length := by rw [List.length_drop]; omega
    rw [hfd, wpOpsIn_eq_wpListIn (ops.drop m) m (fun j => by rw [List.getElem?_toArray, List.getElem?_drop])]
    refine Lst.wp ?_
    refine hfin a w val I.size I.defers (fun i d hi hd => I.done i d hd (hall i hi)) (fun t ht => I.rest t fun j hj => ?_) (fun i hi => I.facts i (hall i hi)) ?_
    · rcases Nat.lt_or_ge j m with h | h
      · exact absurd hj (ht j h)
      · exact I.tail j h
    have hfun : (fun j => listed.getD j false) = fun j => Nat.blt j m := by
      funext j
      rcases Nat.lt_or_ge j m with h | h
      · rw [hall j h]; exact (blt_t h).symm
      · rw [blt_f h]; exact I.tail j h
    have h9 := I.st
    rw [hfun] at h9
    exact h9
  have hcount : ∀ (fuel : Nat) (listed : Array Bool) (a : Act) (w : World) (val : Nat → Value × γ), listed.toList.count false = fuel → JG ops cls cons q Rs I0 Fs Bs w0 a0 m listed a w val → wpAnyIn (FR ro) 0 P .any ops.toArray Q fuel listed a w := by
    intro fuel
    induction fuel with
    | zero =>
      intro listed a w val hc I
      have hall : ∀ i, i < ops.length → listed.getD i false = true := fun i hi => count_zero hc i (by rw [I.lsize]; exact hi)
      refine hend listed a w val I (fun i hi => hall i (by omega)) 0 ?_
      rcases Nat.lt_or_ge m ops.length with h | h
      · have := I.tail m (Nat.le_refl _)
        rw [hall m h] at this; cases this
      · omega
    | succ fuel ih =>
      intro listed a w val hc I
      by_cases hall : ∀ i, i < m → listed.getD i false = true
      · refine hend listed a w val I hall (fuel + 1) ?_
        have key : ∀ (b : List Bool) (m : Nat), m ≤ b.length → (∀ i, i < m → b[i]? = some true) → (∀ i, m ≤ i → i < b.length → b[i]? = some false) → b.count false = b.length - m := by
          intro b
          induction b with
          | nil => intro m _ _ _; simp
          | cons x b ihb =>
            intro m hm h1 h2
            cases m with
            | zero =>
              have hx : x = false := by simpa using h2 0 (Nat.le_refl _) (by simp)
              have := ihb 0 (Nat.zero_le _) (fun i hi => by omega) (fun i _ hi => by simpa using h2 (i + 1) (Nat.zero_le _) (by simp; omega))
              subst hx; simp [this]
            | succ m =>
              have hx : x = true := by simpa using h1 0 (by omega)
              have := ihb m (by simpa using hm) (fun i hi => by simpa using h1 (i + 1) (by omega)) (fun i hi hi2 => by simpa using h2 (i + 1) (by omega) (by simp; omega))
              subst hx; simp [this]
        have hk := key listed.toList m (by simp [I.lsize]; omega)
          (fun i hi => by have := hall i hi; have hil : i < listed.size := by rw [I.lsize]; omega
                          simp [hil] at this ⊢; exact this)
          (fun i hi hi2 => by have := I.tail i hi; have hil : i < listed.size := by simpa using hi2
                              simp [hil] at this ⊢; exact this)
        rw [hc] at hk
        simp [I.lsize] at hk
        omega
      refine ⟨fun hr => absurd (fun i hi => readyC_nil hok I.lsize hr i (by omega)) hall, fun k hk => ?_⟩
      obtain ⟨o, ho, hf, hdir⟩ := ready_direct hk
      have hkl := (List.getElem?_eq_some_iff.1 ho).1
      have hks : k < listed.size := by rw [I.lsize]; exact hkl
      have hkm : k < m := by
        rcases Nat.lt_or_ge k m with h3 | h3
        · exact h3
        · exfalso
          apply hall
          intro j hj
          rcases (okC_direct hok ho).2 j (hT k h3 hkl j (by omega)) with h4 | ⟨p, hp, h4⟩
          · exact hdir j h4
          · exact I.closed p (hdir p hp) j h4
      have hu := hf I.lsize
      have hcl : ∀ j ∈ cls.getD k [], listed.getD j false = true := fun j hj => by
        rcases (okC_direct hok ho).2 j hj with h1 | ⟨q, hq, h1⟩
        · exact hdir j h1
        · exact I.closed q (hdir q hq) j h1
      have hcnt : (listed.setIfInBounds k true).toList.count false = fuel := by have := count_set hks hu; omega
      have hnk : ∀ i, listed.getD i false = true → k ∉ cls.getD i [] := fun i hi hm => by have := I.closed i hi k hm; rw [hu] at this; cases this
      have hkk : k ∉ cls.getD k [] := fun hm => by have := clsC_lt hok k hkl k hm; omega
      obtain ⟨hcn, hcc⟩ := okC_cons hok ho
      -- what it uses up stands
      have hclive : ∀ j ∈ cons.getD k [], liveC ops cons (fun j => listed.getD j false) j = true := fun j hj => by
        obtain ⟨_, h2, h3⟩ := hcc j hj
        refine live_iff.2 ⟨h2.imp id (hcl j), fun i hi hl hm => ?_⟩
        rw [h3 i hi hm] at hl
        rw [hu] at hl; cases hl
      have hperm : ((List.range (ops.length + q)).filter (liveC ops cons fun j => listed.getD j false)).Perm (cons.getD k [] ++ (List.range (ops.length + q)).filter (fun j => liveC ops cons (fun j => listed.getD j false) j && !(cons.getD k []).contains j)) := by
        refine (List.perm_ext_iff_of_nodup (List.nodup_range.filter _) ?_).2 fun j => ?_
        · rw [List.nodup_append]
          refine ⟨hcn, List.nodup_range.filter _, fun x hx y hy e => ?_⟩
          subst e
          have := (Bool.and_eq_true _ _ ▸ (List.mem_filter.1 hy).2 : _ ∧ _).2
          exact not_has.1 this hx
        · rw [List.mem_append, List.mem_filter, List.mem_filter, List.mem_range, Bool.and_eq_true]
          constructor
          · rintro ⟨h1, h2⟩
            by_cases hj : j ∈ cons.getD k []
            · exact .inl hj
            · exact .inr ⟨h1, h2, not_has.2 hj⟩
          · rintro (h1 | ⟨h1, h2, _⟩)
            · exact ⟨(hcc j h1).1, hclive j h1⟩
            · exact ⟨h1, h2⟩
      obtain ⟨E, hE⟩ : ∃ E, E = ((List.range (ops.length + q)).filter (fun j => liveC ops cons (fun j => listed.getD j false) j && !(cons.getD k []).contains j)).flatMap (resG ops cls Rs I0 val) := ⟨_, rfl⟩
      have hst : St w0 ((cons.getD k []).flatMap (resG ops cls Rs I0 val) ++ (Bs ++ E)) w := by
        refine I.st.perm ?_
        refine ((hperm.flatMap_right _).append_right Bs).trans ?_
        rw [List.flatMap_append, ← hE, List.append_assoc]
        exact (List.perm_append_comm).append_left _
      have hslots : ∀ t ∈ o.looksAt ops.toArray, slotG ops (cls.getD k []) a0 a val t := fun t ht => by
        unfold slotG
        cases hw : writer ops (cls.getD k []) t with
        | some j =>
          obtain ⟨hmj, oj, hj, hdj⟩ := find_spec hw
          exact I.done j t (by rw [dst_of hj, hdj]) (hcl j hmj)
        | none =>
          refine I.rest t fun j hdj => ?_
          cases hb : listed.getD j false with
          | false => rfl
          | true =>
            rcases okC_look hok ho t ht j hdj with h | h
            · obtain ⟨oj, h1, h2⟩ := getD_lt hdj
              exact absurd h (find_none hw j oj h1 h2)
            · exact absurd h (hnk j hb)
      have hO := hob k o hkm ho a w val E I.size I.defers hslots (fun j hj => I.facts j (hcl j hj)) hst
      have hset := set_iff hks
      have step : ∀ (v : Value × γ) v' w', (∀ d, o.dst = some d → v' = v.1) → fctG cls Fs (upvG val k v) k → St w0 (resG ops cls Rs I0 (upvG val k v) k ++ (Bs ++ E)) w' → wpAnyIn (FR ro) 0 P .any ops.toArray Q fuel (listed.setIfInBounds k true) (a.put o.dst v') w' := fun v v' w' hv hF hS => by
        have hmk : ∀ i, listed.getD i false = true → mskG (i :: cls.getD i []) (upvG val k v) = mskG (i :: cls.getD i []) val := fun i hi => mskG_congr fun j hj => by
          refine upvG_other val v fun e => ?_
          subst e
          rcases List.mem_cons.1 hj with h | h
          · subst h; rw [hu] at hi; cases hi
          · exact hnk i hi h
        refine ih _ _ w' (upvG val k v) hcnt ⟨by rw [Act.tmps_put_size]; exact I.size, by cases o.dst <;> exact I.defers, by simp [I.lsize], fun i hi => (by have h8 := I.tail i hi; have h7 : k ≠ i := (by omega); simpa [Array.getElem?_setIfInBounds_ne h7] using h8), fun i d hd hl => ?_, fun t ht => ?_, fun i hi j hj => ?_, fun i hi => ?_, ?_⟩
        · obtain ⟨hds, huniq⟩ := okC_dst hok hd
          by_cases hik : i = k
          · subst hik
            have hdo : o.dst = some d := by rw [dst_of ho] at hd; exact hd
            rw [hdo, put_getD, if_pos ⟨rfl, by rw [I.size]; exact hds⟩, upvG_same]
            exact hv d hdo
          · have hne : o.dst ≠ some d := fun e => hik (huniq k (by rw [dst_of ho, e])).symm
            rw [upvG_other val v hik]
            have h9 := I.done i d hd (((hset i).1 hl).resolve_left hik)
            cases hdo : o.dst with
            | none => exact h9
            | some d2 => rw [put_getD, if_neg (fun h => hne (by rw [hdo, h.1]))]; exact h9
        · have h9 := I.rest t fun j hj => by
            have := ht j hj
            cases hb : listed.getD j false with
            | false => rfl
            | true => rw [(hset j).2 (.inr hb)] at this; cases this
          cases hdo : o.dst with
          | none => exact h9
          | some d2 =>
            rw [put_getD, if_neg]
            · exact h9
            · rintro ⟨e, _⟩
              subst e
              have := ht k (by rw [dst_of ho, hdo])
              rw [(hset k).2 (.inl rfl)] at this; cases this
        · rcases (hset i).1 hi with e | e
          · subst e; exact (hset j).2 (.inr (hcl j hj))
          · exact (hset j).2 (.inr (I.closed i e j hj))
        · rcases (hset i).1 hi with e | e
          · subst e; exact hF
          · unfold fctG
            rw [hmk i e]
            exact I.facts i e
        · -- what stands now
          have hlive : ∀ j, liveC ops cons (fun j => (listed.setIfInBounds k true).getD j false) j = true ↔ (j = k ∨ (liveC ops cons (fun j => listed.getD j false) j = true ∧ j ∉ cons.getD k [])) := fun j => by
            rw [live_iff, live_iff]
            constructor
            · rintro ⟨h1, h2⟩
              by_cases hjk : j = k
              · exact .inl hjk
              · refine .inr ⟨⟨h1.imp id fun h => ((hset j).1 h).resolve_left hjk, fun i hi hl => h2 i hi ((hset i).2 (.inr hl))⟩, h2 k hkl ((hset k).2 (.inl rfl))⟩
            · rintro (rfl | ⟨⟨h1, h2⟩, h3⟩)
              · refine ⟨.inr ((hset j).2 (.inl rfl)), fun i hi hl hm => ?_⟩
                have hio : ops[i]? = some ops[i] := by simp [hi]
                rcases ((okC_cons hok hio).2 j hm).2.1 with h | h
                · omega
                · rcases (hset i).1 hl with e | e
                  · subst e; exact hkk h
                  · exact hnk i e h
              · refine ⟨h1.imp id fun h => (hset j).2 (.inr h), fun i hi hl => ?_⟩
                rcases (hset i).1 hl with e | e
                · subst e; exact h3
                · exact h2 i hi e
          have hp2 : ((List.range (ops.length + q)).filter (liveC ops cons fun j => (listed.setIfInBounds k true).getD j false)).Perm (k :: (List.range (ops.length + q)).filter (fun j => liveC ops cons (fun j => listed.getD j false) j && !(cons.getD k []).contains j)) := by
            refine (List.perm_ext_iff_of_nodup (List.nodup_range.filter _) ?_).2 fun j => ?_
            · rw [List.nodup_cons]
              refine ⟨fun hm => ?_, List.nodup_range.filter _⟩
              have h1 := (List.mem_filter.1 hm).2
              rw [Bool.and_eq_true] at h1
              rcases (live_iff.1 h1.1).1 with h | h
              · omega
              · rw [hu] at h; cases h
            · rw [List.mem_filter, List.mem_cons, List.mem_filter, List.mem_range, Bool.and_eq_true, hlive]
              constructor
              · rintro ⟨h1, h2 | ⟨h2, h3⟩⟩
                · exact .inl h2
                · exact .inr ⟨h1, h2, not_has.2 h3⟩
              · rintro (h1 | ⟨h1, h2, h3⟩)
                · exact ⟨by omega, .inl h1⟩
                · exact ⟨h1, .inr ⟨h2, not_has.1 h3⟩⟩
          refine hS.perm ?_
          refine List.Perm.trans ?_ ((hp2.flatMap_right _).append_right Bs).symm
          rw [List.flatMap_cons]
          have hEq : ((List.range (ops.length + q)).filter (fun j => liveC ops cons (fun j => listed.getD j false) j && !(cons.getD k []).contains j)).flatMap (resG ops cls Rs I0 (upvG val k v)) = E := by
            rw [hE, List.flatMap_def, List.flatMap_def]
            congr 1
            refine List.map_congr_left fun j hj => ?_
            have h1 := (List.mem_filter.1 hj).2
            rw [Bool.and_eq_true] at h1
            unfold resG
            rcases Nat.lt_or_ge j ops.length with h | h
            · have hl := (live_iff.1 h1.1).1.resolve_left (by omega)
              rw [hmk j hl]
            · rw [blt_f h]; rfl
          rw [hEq, List.append_assoc]
          exact (List.perm_append_comm).append_left _
      have ho' : ops.toArray[k]? = some o := by simpa using ho
      unfold wpOpIn
      simp only [ho']
      unfold Lst at hO
      split at hO
      · rename_i hw
        rw [if_pos hw]
        exact hO.wp fun v w' h9 => by
          unfold Lst at h9
          obtain ⟨u, h1, h2, h3⟩ := h9
          refine step u v w' (fun d hd => ?_) h2 h3
          have := h1 d hd
          rwa [hd, put_getD, if_pos ⟨rfl, by rw [I.size]; exact (okC_dst hok (by rw [dst_of ho, hd])).1⟩] at this
      · rename_i hw
        rw [if_neg hw]
        unfold Lst at hO
        obtain ⟨u, h1, h2, h3⟩ := hO
        refine ⟨fun _ _ => trivial, step u undef w (fun d hd => ?_) h2 h3⟩
        have := h1 d hd
        rwa [hd, put_getD, if_pos ⟨rfl, by rw [I.size]; exact (okC_dst hok (by rw [dst_of ho, hd])).1⟩] at this
  have hz : ∀ i, (Array.replicate ops.toArray.size false).getD i false = false := fun i => by simp [Array.getElem?_replicate]; split <;> rfl
  have hfz : (fun j => (Array.replicate ops.toArray.size false).getD j false) = fun _ => false := funext hz
  refine hcount _ _ _ _ (fun _ => (undef, default)) (by simp) ⟨rfl, rfl, by simp, fun i _ => hz i, fun i d _ h => ?_, fun _ _ => rfl, fun i h => ?_, fun i h => ?_, ?_⟩
  · rw [hz] at h; cases h
  · rw [hz] at h; cases h
  · rw [hz] at h; cases h
  · rw [hfz]; exact s.drew
def AllG (P : Program) (ops : List Oper) (cls cons : List (List Nat)) (Rs : List (ResG γ)) (I0 : List (List Own)) (Fs : List (FctG γ)) (Bs : List Own) (w0 : World) (a0 : Act) : List Oper → Nat → Prop
  | [], _ => True
  | o :: r, i => ObG P ops cls cons Rs I0 Fs Bs w0 a0 i o ∧ AllG P ops cls cons Rs I0 Fs Bs w0 a0 r (i + 1)
theorem allG_get {Rs : List (ResG γ)} {I0 : List (List Own)} {Fs : List (FctG γ)} {Bs : List Own} : ∀ {l : List Oper} {k : Nat}, AllG P ops cls cons Rs I0 Fs Bs w0 a0 l k → ∀ i o, l[i]? = some o → ObG P ops cls cons Rs I0 Fs Bs w0 a0 (k + i) o
  | [], _, _, i, o, h => by simp at h
  | x :: r, k, H, 0, o, h => by simp at h; subst h; exact H.1
  | x :: r, k, H, i + 1, o, h => by
    have := allG_get H.2 i o (by simpa using h)
    rwa [show k + (i + 1) = k + 1 + i by omega]
theorem c_regG {rid N : Nat} {L : List (Nat × Value)} {Df : List Deferred} {B : List Own} (q : Nat) (cls cons : List (List Nat)) (Rs : List (ResG γ)) (I0 : List (List Own)) (Fs : List (FctG γ)) (Bs : List Own)
    (h : Sl N a0 L Df) (s : St w0 B w1) (hB : ((List.range (ops.length + q)).filter (liveC ops cons fun _ => false)).flatMap (resG ops cls Rs I0 fun _ => (undef, default)) ++ Bs = B) (hm : P.follows .mixedOrders = true) (hok : okRegC ops cls cons q N = true) (hsel : Region.noSelect ops.toArray = true)
    (hob : AllG P ops cls cons Rs I0 Fs Bs w0 a0 ops 0) (lv : List Nat) (hlv : (List.range (ops.length + q)).filter (liveC ops cons fun j => Nat.blt j ops.length) = lv)
    (hfin : ∀ (b : Act) (w : World) (val : Nat → Value × γ), b.tmps.size = N → b.defers = Df → (∀ i d, dstOf ops i = some d → b.tmps.getD d undef = (val i).1) → (∀ t, (∀ i, dstOf ops i ≠ some t) → b.tmps.getD t undef = a0.tmps.getD t undef) →
      (∀ i, Nat.blt i ops.length = true → fctG cls Fs val i) → St w0 (lv.flatMap (resG ops cls Rs I0 val) ++ Bs) w → Q .normal b w) :
    (Code.region rid ops.toArray true).wpIn (FR ro) 0 P Q a0 w1 := by
  subst hB
  refine wp_regionG (m := ops.length) (Fs := Fs) (I0 := I0) (Rs := Rs) hm (by rw [h.size]; exact hok) hsel (Nat.le_refl _) (fun i h1 h2 => absurd h2 (by omega)) (fun i o _ hi => ?_) s fun b w val h1 h2 h3 h4 h5 h6 => ?_
  · have := allG_get hob i o hi
    rwa [Nat.zero_add] at this
  · rw [List.drop_length]
    refine Lst.nil.2 (hfin b w val (h1.trans h.size) (h2.trans h.defers) (fun i d hd => h3 i d (dst_lt hd) hd) (fun t ht => h4 t fun i _ => ht i) (fun i hi => h5 i (Nat.le_of_ble_eq_true hi)) (by rw [hlv] at h6; exact h6))
theorem og_get {cl : List Nat} {a : Act} {val : Nat → Value × γ} {lk9 : List Tmp} (hl : ∀ t ∈ lk9, slotG ops cl a0 a val t) (t j : Nat) (hm : lk9.contains t = true) (hw : writer ops cl t = some j) : a.tmps.getD t undef = (val j).1 := by
  have := hl t (List.contains_iff_mem.1 hm)
  unfold slotG at this
  rw [hw] at this
  exact this
theorem og_old {cl : List Nat} {a : Act} {val : Nat → Value × γ} {lk9 : List Tmp} (hl : ∀ t ∈ lk9, slotG ops cl a0 a val t) (t : Nat) (hm : lk9.contains t = true) (hw : writer ops cl t = none) {v : Value} (hv : a0.tmps.getD t undef = v) : a.tmps.getD t undef = v := by
  have := hl t (List.contains_iff_mem.1 hm)
  unfold slotG at this
  rw [hw] at this
  exact this.trans hv
end
end Go.Proofs.YtndbijifgalpbaaGreat

namespace Go.Proofs.YtndbijifgalpbaaGreat
open Go.RowKit
/-! ### fingers set: what is stable stays such -/
theorem stab_mk {L : List N3} (ho : ovR L = true) (h1 : L.length = 1 → ∀ y ∈ L, y.1.pr = nMb ∧ y.1.sc = [y.1.me]) (hn : L.length ≠ 1 → ∀ y ∈ L, y.1.pr = befL (memL L) y.1.me ∧ y.1.sc = folL (memL L) y.1.me (min (L.length - 1) 4)) : stabO L = true := by
  unfold stabO
  rw [ho]
  by_cases h : L.length = 1
  · rw [decide_eq_true h]
    have := h1 h _ (n3_mem (L := L) (j := 0) (by omega))
    show oneB (L.getD 0 z3).1 = true
    unfold oneB
    rw [decide_eq_true this.1, this.2]
    simp
  · rw [decide_eq_false h]
    show (List.range L.length).all (stbB L) = true
    refine List.all_eq_true.2 fun k hk => ?_
    have := hn h _ (n3_mem (L := L) (j := k) (List.mem_range.1 hk))
    unfold stbB
    rw [decide_eq_true this.1, decide_eq_true this.2]; rfl
theorem point_stab {L K : List N3} {no to : Int} (hs : stabO L = true) (e : cpE L no to = 0) (hK : nds K = cpN L no to) : stabO K = true ∧ memL K = memL L := by
  obtain ⟨ho, l0, l1, pe⟩ := cp_0 e
  have hrk := rk_of ho
  obtain ⟨g1, g2⟩ := hrk.rs.get l0
  obtain ⟨t1, t2⟩ := hrk.rs.get l1
  have hp := pt_stay pe
  obtain ⟨x, hx⟩ : ∃ x : N3, x = (ptN (getL L no).1 (getL L to).1.me, nilV, nilV) := ⟨_, rfl⟩
  have hx1 : x.1 = ptN (getL L no).1 (getL L to).1.me := by rw [hx]
  obtain ⟨p1, p2, p3⟩ := hrk.rs.put (x := x) g1 (by rw [hx1, hp.2]) (by rw [hx1]; exact hp.1)
  have eK : nds K = nds (putL L x) := by rw [hK, cp_ok e, put_nd, hx1]
  have hmem : memL K = memL L := by
    rw [← p2, ← mems_nd K, eK, mems_nd]
  have hRS : RS K := p1.nds eK
  have hlen : K.length = L.length := by have h9 := congrArg List.length hmem; simpa [memL] using h9
  have node : ∀ y ∈ K, ∃ z ∈ L, y.1.me = z.1.me ∧ y.1.pr = z.1.pr ∧ y.1.sc = z.1.sc ∧ ∀ m ∈ y.1.fg, m ∈ z.1.fg ∨ m ∈ memL L := fun y hy => by
    have hy1 : y.1 ∈ nds (putL L x) := by rw [← eK]; exact List.mem_map.2 ⟨y, hy, rfl⟩
    obtain ⟨z, hz, ez⟩ := List.mem_map.1 hy1
    rw [← ez]
    rcases put_in hz with h9 | h9
    · rw [h9, hx1, pt_to pe]
      refine ⟨getL L no, g1, rfl, rfl, rfl, fun m hm => ?_⟩
      have hm : m ∈ ptF (getL L no).1 (getL L to).1.me := hm
      unfold ptF at hm
      cases hb : hasB (getL L no).1.fg (getL L to).1.me.1 with
      | true => rw [hb] at hm; exact .inl hm
      | false =>
        rw [hb] at hm
        rcases List.mem_append.1 hm with h8 | h8
        · exact .inl h8
        · rw [List.mem_singleton.1 h8]; exact .inr (List.mem_map.2 ⟨_, t1, rfl⟩)
    · exact ⟨z, h9, rfl, rfl, rfl, fun m hm => .inl hm⟩
  have hRK : RK K := ⟨hRS, fun y hy m hm => by
    obtain ⟨z, hz, _, q2, q3, q4⟩ := node y hy
    rw [hmem]
    unfold knownN at hm
    rcases List.mem_cons.1 hm with h9 | h9
    · exact hrk.kn z hz m (by unfold knownN; rw [h9, q2]; exact List.mem_cons_self ..)
    · rcases List.mem_append.1 h9 with h8 | h8
      · exact hrk.kn z hz m (by unfold knownN; rw [q3] at h8; exact List.mem_cons_of_mem _ (List.mem_append_left _ h8))
      · rcases q4 m h8 with h7 | h7
        · exact hrk.kn z hz m (by unfold knownN; exact List.mem_cons_of_mem _ (List.mem_append_right _ h7))
        · exact fun s hs9 he => hrk.rs.ring.no hs9 h7 he⟩
  refine ⟨stab_mk hRK.ov (fun h1 y hy => ?_) fun hn y hy => ?_, hmem⟩
  · obtain ⟨z, hz, q1, q2, q3, _⟩ := node y hy
    obtain ⟨r1, r2⟩ := stab_one hs (by omega) hz
    exact ⟨q2.trans r1, by rw [q3, q1]; exact r2⟩
  · obtain ⟨z, hz, q1, q2, q3, _⟩ := node y hy
    obtain ⟨r1, r2⟩ := stab_at hs (by omega) hz
    exact ⟨by rw [hmem, q1, q2]; exact r1, by rw [hmem, q1, q3, hlen]; exact r2⟩
/-! numbers of pairs -/
theorem int_cut {w : World} {v : Value} {qs : List Int} (h : RdZ w v 1 qs.length (intC qs)) (k : Nat) (hk : k ≤ qs.length) : RdZ w (cutV v k) 1 (qs.take k).length (intC (qs.take k)) := by
  have h9 := h.cut k hk
  rw [Nat.mul_one] at h9
  unfold intC
  rw [List.length_take, Nat.min_eq_left hk, List.map_take]
  exact h9
theorem nn_bd {n : Nat} (h1 : 1 ≤ n) (h2 : n ≤ 16) : 1 ≤ (n : Int) * n ∧ (n : Int) * n ≤ 256 := by
  have h3 : n * n ≤ 16 * 16 := Nat.mul_le_mul h2 h2
  have h4 : 1 * 1 ≤ n * n := Nat.mul_le_mul h1 h1
  have h5 : ((n * n : Nat) : Int) = (n : Int) * n := by simp
  rw [← h5]; omega
theorem ix_two {y N : Int} {n : Nat} (hN : N = (n : Int) * n) (h0 : 0 ≤ y) (h1 : y < N) (hn : 1 ≤ n) : (∃ i : Nat, y % (n : Int) = (i : Int) ∧ i < n) ∧ ∃ i : Nat, y / (n : Int) = (i : Int) ∧ i < n := by
  constructor
  · refine ⟨(y % (n : Int)).toNat, ?_, ?_⟩
    · exact (Int.toNat_of_nonneg (Int.emod_nonneg _ (by omega))).symm
    · have := Int.emod_lt_of_pos y (show (0 : Int) < n by omega)
      have := Int.emod_nonneg y (show (n : Int) ≠ 0 by omega)
      omega
  · have h2 : y / (n : Int) < n := Int.ediv_lt_of_lt_mul (by omega) (by rw [← hN]; exact h1)
    have h3 : 0 ≤ y / (n : Int) := Int.ediv_nonneg h0 (by omega)
    exact ⟨(y / (n : Int)).toNat, (Int.toNat_of_nonneg h3).symm, by omega⟩
theorem tm_N (m : Int) {N : Int} (h : 1 ≤ N) : -N < m.tmod N ∧ m.tmod N < N := ⟨Int.lt_tmod_of_pos m (by omega), Int.tmod_lt_of_pos m (by omega)⟩
theorem tupS_eq {vw : Value} {k : Int} {sz n : Nat} {xs : List Value} {w : World} (h : RdZ w vw sz n xs) : tupS (.tuple #[.agg #[vw], .int .i64 k]) = vw := ovS_eq h
theorem tupS_one (v : Value) : (tupS v).oneCell' = true := by
  unfold tupS
  split
  · split
    · next b _ => exact ovS_one (.agg b)
    · rfl
  · rfl
/-! what is handed out -/
theorem wkP_own {w w' : World} {N : TypeId} {L : List N3} {x : Id} {no hops : Int} {p : Value} {m : Mb} {e : Int} {l : List Int} (h : wkE L x no hops = e ∧ wkM L x no hops = m ∧ wkP L x no hops = l) (s : St w [.sl p N 1 l.length (intC l)] w') : WkP w L x no hops (.tuple #[p, .agg (mbArr m), .int .i64 e]) w' := by
  obtain ⟨rfl, rfl, rfl⟩ := h
  exact ⟨p, _, rfl, (St.group (A := [.sl p N 1 _ _]) (B := []) s).weak fun w9 h9 => RdZ.of_own (h9 (.sl p N 1 _ _) (by simp))⟩
section
variable {P : Program} {a : Act} {w w0 : World} {N : Nat} {L : List (Nat × Value)} {B : List Own} {fn : Func}
theorem e_tmp_row_tmp {T : Asrt} {p q r : Tmp} {t : TypeId} {b n : Nat} {C : Array Value} {u : TypeId} {V U : Value} (i : Nat) (hres : fn.results = #[.tmp q, .cell p t, .tmp r]) (h : Sl N a L) (s : St w0 B w) (hr : Row P t n) (hq : lk L q = some V) (hp : lk L p = some (.pointer (some ⟨b, 0, none⟩))) (hi : B[i]? = some (.blk b (.cells C u))) (hn : C.size = n)
    (hu : lk L r = some U) (hT : T (.tuple #[V, .agg C, U]) w) : bodyPost P fn (Ret w0 T) .ret a w := by
  refine ⟨h.defers, .tuple #[V, .agg C, U], ?_, _, rfl, hT, s.ext⟩
  have hp' : a.tmps[p]?.getD undef = .pointer (some ⟨b, 0, none⟩) := by simpa using h.holds p _ hp
  have hq' : a.tmps[q]?.getD undef = V := by simpa using h.holds q _ hq
  have hu' : a.tmps[r]?.getD undef = U := by simpa using h.holds r _ hu
  simp [results, hres, hp', hq', hu', asAddr, run_load_row hr w b C u (0, 0) (s.get i hi) hn]
end
end Go.Proofs.YtndbijifgalpbaaGreat

namespace Go.Proofs.YtndbijifgalpbaaGreat
open Go.RowKit
/-! ### where a server lies, and who does not live -/
def fnI (L : List N3) (no : Int) : Int := bif decide (ixL L no < L.length) then (ixL L no : Int) else -1
theorem fn_y {L : List N3} {no : Int} (h : ixL L no < L.length) : fnI L no = (ixL L no : Int) := by unfold fnI; rw [decide_eq_true h]; rfl
theorem fn_n {L : List N3} {no : Int} (h : ¬ ixL L no < L.length) : fnI L no = -1 := by unfold fnI; rw [decide_eq_false h]; rfl
theorem fn_of {L : List N3} {no r : Int} (h : (r = -1 ∧ ∀ x ∈ L, decide (x.1.me.1 = no) = false) ∨ ∃ k : Nat, k < L.length ∧ r = (k : Int) ∧ decide ((L.getD k z3).1.me.1 = no) = true ∧ ∀ i, i < k → decide ((L.getD i z3).1.me.1 = no) = false) : r = fnI L no := by
  rcases h with ⟨rfl, h⟩ | ⟨k, hk, rfl, h1, h2⟩
  · rw [fn_n]
    rw [ix_none (Nat.le_refl _) fun j hj => h _ (n3_mem hj)]
    exact Nat.lt_irrefl _
  · rw [fn_y] <;> rw [ix_at hk h2 h1]
    exact hk
theorem fn_lives {L : List N3} {no : Int} (hn : ∀ m ∈ memL L, 0 ≤ m.1) : decide (fnI L no < 0) = !livesB (memL L) no := by
  rw [← ix_lives hn]
  by_cases h : ixL L no < L.length
  · rw [fn_y h, decide_eq_true h, decide_eq_false (by omega)]; rfl
  · rw [fn_n h, decide_eq_false h]; rfl
def deadK (l : List Mb) (k : Nat) : List Int := ((List.range k).map fun (i : Nat) => (i : Int)).filter fun no => !livesB l no
theorem deadK_y {l : List Mb} {k : Nat} (h : livesB l (k : Int) = false) : deadK l (k + 1) = deadK l k ++ [(k : Int)] := by
  unfold deadK
  rw [List.range_succ, List.map_append, List.filter_append]
  simp [h]
theorem deadK_n {l : List Mb} {k : Nat} (h : livesB l (k : Int) = true) : deadK l (k + 1) = deadK l k := by
  unfold deadK
  rw [List.range_succ, List.map_append, List.filter_append]
  simp [h]
theorem deadK_le (l : List Mb) (k : Nat) : (deadK l k).length ≤ k := by
  unfold deadK
  refine Nat.le_trans (List.length_filter_le _ _) ?_
  rw [List.length_map, List.length_range]; exact Nat.le_refl _
theorem dead_gone {l : List Mb} {m : Mb} (h : 0 ≤ m.1 ∧ m.1 < 16) : goneB (deadK l 16) m = !livesB l m.1 := by
  rw [Bool.eq_iff_iff, gone_iff]
  unfold deadK
  rw [List.mem_filter]
  refine ⟨fun h9 => h9.2, fun h9 => ⟨List.mem_map.2 ⟨m.1.toNat, List.mem_range.2 (by omega), by omega⟩, h9⟩⟩
theorem dead_drop {l : List Mb} {n : Nd} (h : RN n) : drN n (deadK l 16) = td1 l n := by
  rw [(dr_ok _ (rn_iff.2 h)).1, td1_eq h]
  have hk : ∀ r : List Mb, (∀ y ∈ r, y ∈ knownN n) → (∀ y ∈ r, 0 ≤ y.1 ∧ y.1 < 16) → dropL r (deadK l 16) = dropL r (dwn l n) := fun r h1 h2 => by
    unfold dropL
    refine List.filter_congr fun y hy => ?_
    rw [dead_gone (h2 y hy), gone_dwn (h1 y hy)]
  have hp : drP n (deadK l 16) = drP n (dwn l n) := by
    unfold drP
    rcases h.pr with h9 | h9
    · rw [h9]; cases goneB (deadK l 16) nMb <;> cases goneB (dwn l n) nMb <;> rfl
    · rw [dead_gone h9.1, gone_dwn (by unfold knownN; exact List.mem_cons_self ..)]
  have hs := hk n.sc (fun y hy => by unfold knownN; exact List.mem_cons_of_mem _ (List.mem_append_left _ hy)) (fun y hy => by
    rcases h.sc with h9 | h9
    · rw [h9, List.mem_singleton] at hy; rw [hy]; exact h.me
    · exact h9.2.2.may y hy)
  have hf := hk n.fg (fun y hy => by unfold knownN; exact List.mem_cons_of_mem _ (List.mem_append_right _ hy)) (fun y hy => h.fg.2.may y hy)
  rw [hp, hs, hf]
theorem own_an {l : List Mb} {n : Nd} {x : Id} (h : RN n) : ownsN (td1 l n) x = anO l n x := by
  unfold ownsN anO
  rw [rn_iff.2 (td1_rn (l := l) h)]; rfl
theorem drop_sub {l : List Mb} {nos : List Int} {y : Mb} (h : y ∈ dropL l nos) : y ∈ l := (List.mem_filter.1 (show y ∈ l.filter _ from h)).1
/-- what a server answers is a member, if all that is known may be -/
theorem an_mem {L : List N3} (h : RK L) {y : N3} (hy : y ∈ L) (x : Id) : anM (memL L) y.1 x ∈ memL L := by
  have hg := h.rs.ring
  have hm : y.1.me ∈ memL L := List.mem_map.2 ⟨y, hy, rfl⟩
  cases ho : anO (memL L) y.1 x with
  | true => rw [(an_own ho).1]; exact hm
  | false =>
    rw [(an_nx ho).1]
    have hr := h.rs.rn y hy
    have hz := nx_mem (td1_rn (l := memL L) hr) x
    have hl := td1_alive hr (lv_mem hg hm) hz
    obtain ⟨m, hm9, e⟩ := lv_of hg hl
    obtain ⟨z, hzz⟩ : ∃ z, z = nxM (td1 (memL L) y.1) x := ⟨_, rfl⟩
    rw [← hzz] at hz hl e ⊢
    have hin : z = y.1.me ∨ z ∈ knownN y.1 := by
      rw [td1_eq hr] at hz
      rcases List.mem_append.1 hz with h1 | h1
      · exact .inr (by unfold knownN; exact List.mem_cons_of_mem _ (List.mem_append_right _ (drop_sub h1)))
      · have h1 : z ∈ orA (dropL y.1.sc (dwn (memL L) y.1)) y.1.me := h1
        by_cases h0 : (dropL y.1.sc (dwn (memL L) y.1)).length = 0
        · rw [orA_n h0] at h1; exact .inl (List.mem_singleton.1 h1)
        · rw [orA_l h0] at h1
          exact .inr (by unfold knownN; exact List.mem_cons_of_mem _ (List.mem_append_left _ (drop_sub h1)))
    rcases hin with h9 | h9
    · rw [h9]; exact hm
    · rw [← h.kn y hy _ h9 m hm9 e]; exact hm9
/-! ### steps: each an answer, compared to the one ahead -/
def prP (M0 : Mb) (P : Nat → Mb × Bool) : Nat → Mb × Bool | 0 => (M0, false) | d + 1 => P d
def stB (M0 : Mb) (P : Nat → Mb × Bool) (d : Nat) : Bool := decide (P d = prP M0 P d)
def qW (P : Nat → Mb × Bool) (hops d : Nat) : Bool := (P d).2 || decide (hops ≤ d)
theorem nn_f0 (m : Mb) (b : Bool) : ((nnArr m b).toList.drop 0).take 33 = (mbArr m).toList := by
  show ((mbL m ++ [Value.bool b]).drop 0).take 33 = mbL m
  rw [List.drop_zero, List.take_left' (mbL_len m)]
theorem nn_f1 (m : Mb) (b : Bool) : ((nnArr m b).toList.drop 33).take 1 = [Value.bool b] := by
  show ((mbL m ++ [Value.bool b]).drop 33).take 1 = [Value.bool b]
  rw [List.drop_left' (mbL_len m)]; rfl
theorem nnArr_inj {x y : Mb × Bool} (h : (nnArr x.1 x.2).toList = (nnArr y.1 y.2).toList) : x = y := by
  have h9 : mbL x.1 ++ [Value.bool x.2] = mbL y.1 ++ [Value.bool y.2] := h
  obtain ⟨h1, h2⟩ := List.append_inj h9 (by rw [mbL_len, mbL_len])
  refine Prod.ext (mbArr_inj h1) ?_
  simpa using h2
theorem nnEq (x y : Mb × Bool) : decide (x = y) = true ↔ (nnArr x.1 x.2).toList = (nnArr y.1 y.2).toList := by
  rw [decide_eq_true_eq]; exact ⟨fun h => by rw [h], nnArr_inj⟩
def askK (M0 : Mb) (P : Nat → Mb × Bool) (d : Nat) : List Int := (List.range d).map fun j => (prP M0 P j).1.1
def endW (l : List Int) (o : Int) : List Int := bif decide (l.getD (l.length - 1) 0 = o) then l else l ++ [o]
def jW (M0 : Mb) (P : Nat → Mb × Bool) (hops : Nat) : Nat → List Int | 0 => askK M0 P 1 | d + 1 => bif (P d).2 then endW (askK M0 P (d + 1)) (P d).1.1 else bif decide (hops ≤ d) then askK M0 P (d + 1) else askK M0 P (d + 2)
def jM (P : Nat → Mb × Bool) : Nat → Mb | 0 => zMb | d + 1 => bif (P d).2 then (P d).1 else zMb
def jE (P : Nat → Mb × Bool) (hops : Nat) : Nat → Int | 0 => 0 | d + 1 => bif (P d).2 then 0 else bif decide (hops ≤ d) then 9 else 0
def jU (P : Nat → Mb × Bool) (v : Value) : Nat → Value | 0 => nilV | d + 1 => bif (P d).2 then v else nilV
theorem ask_succ (M0 : Mb) (P : Nat → Mb × Bool) (d : Nat) : askK M0 P (d + 1) = askK M0 P d ++ [(prP M0 P d).1.1] := by simp [askK, List.range_succ]
theorem ask_two (M0 : Mb) (P : Nat → Mb × Bool) (d : Nat) : askK M0 P (d + 2) = askK M0 P (d + 1) ++ [(P d).1.1] := ask_succ M0 P (d + 1)
theorem ask_len (M0 : Mb) (P : Nat → Mb × Bool) (d : Nat) : (askK M0 P d).length = d := by simp [askK]
theorem ask_last (M0 : Mb) (P : Nat → Mb × Bool) (d : Nat) : (askK M0 P (d + 1)).getD d 0 = (prP M0 P d).1.1 := by
  rw [ask_succ, List.getD_eq_getElem?_getD, List.getElem?_append_right (by rw [ask_len]; exact Nat.le_refl _), ask_len, Nat.sub_self]; rfl
theorem q_no {P : Nat → Mb × Bool} {hops d : Nat} (h : ∀ j, j < d → qW P hops j = false) : ∀ j, j < d → (P j).2 = false ∧ j < hops := fun j hj => by
  have := h j hj
  unfold qW at this
  rw [Bool.or_eq_false_iff] at this
  exact ⟨this.1, by have := of_decide_eq_false this.2; omega⟩
theorem j_at {M0 : Mb} {P : Nat → Mb × Bool} {hops d : Nat} (v : Value) (h : ∀ j, j < d → qW P hops j = false) : jW M0 P hops d = askK M0 P (d + 1) ∧ jM P d = zMb ∧ jE P hops d = 0 ∧ jU P v d = nilV := by
  cases d with
  | zero => exact ⟨rfl, rfl, rfl, rfl⟩
  | succ d =>
    obtain ⟨h1, h2⟩ := q_no h d (Nat.lt_succ_self d)
    simp only [jW, jM, jE, jU, h1, decide_eq_false (show ¬ hops ≤ d by omega), cond_false, and_self]
theorem j_own {M0 : Mb} {P : Nat → Mb × Bool} {hops d : Nat} (v : Value) (h : (P d).2 = true) : jW M0 P hops (d + 1) = endW (askK M0 P (d + 1)) (P d).1.1 ∧ jM P (d + 1) = (P d).1 ∧ jE P hops (d + 1) = 0 ∧ jU P v (d + 1) = v := by
  simp only [jW, jM, jE, jU, h, cond_true, and_self]
theorem j_hops {M0 : Mb} {P : Nat → Mb × Bool} {hops d : Nat} (v : Value) (h : (P d).2 = false) (h1 : hops ≤ d) : jW M0 P hops (d + 1) = askK M0 P (d + 1) ∧ jM P (d + 1) = zMb ∧ jE P hops (d + 1) = 9 ∧ jU P v (d + 1) = nilV := by
  simp only [jW, jM, jE, jU, h, decide_eq_true h1, cond_true, cond_false, and_self]
theorem j_on {M0 : Mb} {P : Nat → Mb × Bool} {hops d : Nat} (v : Value) (h : (P d).2 = false) (h1 : ¬ hops ≤ d) : jW M0 P hops (d + 1) = askK M0 P (d + 2) ∧ jM P (d + 1) = zMb ∧ jE P hops (d + 1) = 0 ∧ jU P v (d + 1) = nilV := by
  simp only [jW, jM, jE, jU, h, decide_eq_false h1, cond_false, and_self]
/-- how it may end -/
def WlO (m : Nat) (P : Nat → Mb × Bool) (M0 : Mb) (hops : Nat) (W : List Int) (M : Mb) (E : Int) : Prop :=
  (W = [] ∧ M = zMb ∧ E = 13 ∧ ∀ j, j < m → qW P hops j = false) ∨ ∃ d, d < m ∧ (∀ j, j < d → qW P hops j = false) ∧
    ((W = endW (askK M0 P (d + 1)) (P d).1.1 ∧ M = (P d).1 ∧ E = 0 ∧ (P d).2 = true) ∨ (W = [] ∧ M = zMb ∧ E = 9 ∧ (P d).2 = false ∧ hops ≤ d))
def WlkP (w : World) (N : TypeId) (m : Nat) (P : Nat → Mb × Bool) (M0 : Mb) (hops : Nat) : Asrt := fun v w' => ∃ p W M E, v = .tuple #[p, .agg (mbArr M), .int .i64 E] ∧ WlO m P M0 hops W M E ∧ Owns w' w.heap.size N 1 p W.length (intC W)
def mW (L : List N3) (x : Id) (no : Int) (hops : Nat) : Nat := ((List.range (hops + 1)).findIdx fun d => stB (getL L no).1.me (fun d => (ansK L x no d, lasK L x no d)) d)
abbrev PW (L : List N3) (x : Id) (no : Int) : Nat → Mb × Bool := fun d => (ansK L x no d, lasK L x no d)
theorem mW_le (L : List N3) (x : Id) (no : Int) (hops : Nat) : mW L x no hops ≤ hops + 1 := by
  have := List.findIdx_le_length (p := fun d => stB (getL L no).1.me (PW L x no) d) (xs := List.range (hops + 1))
  rw [List.length_range] at this; exact this
theorem mW_lt {L : List N3} {x : Id} {no : Int} {hops d : Nat} (h : d < mW L x no hops) : stB (getL L no).1.me (PW L x no) d = false := by
  have := List.not_of_lt_findIdx (p := fun d => stB (getL L no).1.me (PW L x no) d) (xs := List.range (hops + 1)) h
  rw [List.getElem_range] at this
  exact this
theorem mW_at {L : List N3} {x : Id} {no : Int} {hops : Nat} (h : mW L x no hops ≤ hops) : stB (getL L no).1.me (PW L x no) (mW L x no hops) = true := by
  have h9 : (List.range (hops + 1)).findIdx (fun d => stB (getL L no).1.me (PW L x no) d) < (List.range (hops + 1)).length := by
    rw [List.length_range]; exact Nat.lt_succ_of_le h
  have := List.findIdx_getElem (w := h9)
  rw [List.getElem_range] at this
  exact this
theorem mW_end {L : List N3} {x : Id} {no : Int} {hops : Nat} (h : ∀ j, j < mW L x no hops → qW (PW L x no) hops j = false) : stB (getL L no).1.me (PW L x no) (mW L x no hops) = true := by
  by_cases h9 : mW L x no hops ≤ hops
  · exact mW_at h9
  · have := (q_no h hops (by omega)).2
    exact absurd this (Nat.lt_irrefl _)
theorem pr_now {L : List N3} {x : Id} {no : Int} (hno : (getL L no).1.me.1 = no) (d : Nat) : (prP (getL L no).1.me (PW L x no) d).1.1 = nowK L x no d := by
  cases d with
  | zero => exact hno
  | succ d => rfl
theorem ask_way {L : List N3} {x : Id} {no : Int} (hno : (getL L no).1.me.1 = no) (d : Nat) : askK (getL L no).1.me (PW L x no) d = wayK L x no d := by
  unfold askK wayK
  exact List.map_congr_left fun j _ => pr_now hno j
/-- what the steps come to is what the document says -/
theorem wl_of {L : List N3} (h : RK L) (x : Id) {no : Int} (hl : livesB (memL L) no = true) {hops : Nat} {W : List Int} {M : Mb} {E : Int} (hO : WlO (mW L x no hops) (PW L x no) (getL L no).1.me hops W M E) :
    wlE L x no hops = E ∧ wlM L x no hops = M ∧ wlP L x no hops = W := by
  have hrs := h.rs
  have hg := hrs.ring
  obtain ⟨hgm, hno⟩ := hrs.get hl
  have hmem : ∀ d, (prP (getL L no).1.me (PW L x no) d).1 ∈ memL L := fun d => by
    cases d with
    | zero => exact List.mem_map.2 ⟨_, hgm, rfl⟩
    | succ d =>
      obtain ⟨h1, _⟩ := hrs.get (now_lives hrs x hl d)
      exact an_mem h h1 x
  have hans : ∀ d, ansK L x no d ∈ memL L := fun d => hmem (d + 1)
  -- an early step leads farther
  have key : ∀ d, (∀ j, j < d → (PW L x no j).2 = false) → lasK L x no d = false → (stB (getL L no).1.me (PW L x no) d = decide ((ansK L x no d).1 = nowK L x no d)) := fun d hj hd => by
    have hp2 : (prP (getL L no).1.me (PW L x no) d).2 = false := by
      cases d with
      | zero => rfl
      | succ d => exact hj d (Nat.lt_succ_self d)
    unfold stB
    rw [Bool.eq_iff_iff, decide_eq_true_iff, decide_eq_true_iff]
    constructor
    · intro e
      rw [← pr_now hno d, ← e]
    · intro e
      refine Prod.ext (hg.no (hans d) (hmem d) (e.trans (pr_now hno d).symm)) ?_
      rw [hp2]; exact hd
  have goes : ∀ d, d ≤ mW L x no hops → (∀ j, j < d → (PW L x no j).2 = false) → ∀ j, j < d → endK L x no j = false := fun d hd h2 j hj => by
    have h3 := key j (fun i hi => h2 i (by omega)) (h2 j hj)
    rw [mW_lt (Nat.lt_of_lt_of_le hj hd)] at h3
    exact end_no (h2 j hj) h3.symm
  rcases hO with ⟨rfl, rfl, rfl, hq⟩ | ⟨d, hd, hq, hO⟩
  · have hq2 := fun j hj => (q_no hq j hj).1
    have hm : mW L x no hops ≤ hops := by
      rcases Nat.lt_or_ge hops (mW L x no hops) with h9 | h9
      · exact absurd (q_no hq hops h9).2 (Nat.lt_irrefl _)
      · exact h9
    have hat := mW_at hm
    have hP := of_decide_eq_true hat
    have hlas : lasK L x no (mW L x no hops) = false := by
      have : (PW L x no (mW L x no hops)).2 = (prP (getL L no).1.me (PW L x no) (mW L x no hops)).2 := by rw [hP]
      show (PW L x no (mW L x no hops)).2 = false
      rw [this]
      generalize mW L x no hops = m at hq2
      cases m with
      | zero => rfl
      | succ d => exact hq2 d (Nat.lt_succ_self d)
    exact wl_lost hl hm (goes _ (Nat.le_refl _) hq2) hlas (by rw [← key _ hq2 hlas]; exact hat)
  · have hq2 := fun j hj => (q_no hq j hj).1
    have hml := mW_le L x no hops
    rcases hO with ⟨rfl, rfl, rfl, he⟩ | ⟨rfl, rfl, rfl, he, hh⟩
    · obtain ⟨h1, h2, h3⟩ := wl_own hl (show d ≤ hops by omega) (goes d (by omega) hq2) he
      refine ⟨h1, h2, h3.trans ?_⟩
      unfold endW tlK9
      rw [ask_len, Nat.add_sub_cancel, ask_last, pr_now hno, ask_way hno]
      by_cases e : (ansK L x no d).1 = nowK L x no d
      · rw [decide_eq_true e, decide_eq_true e.symm]; exact List.append_nil _
      · rw [decide_eq_false e, decide_eq_false fun e9 => e e9.symm]; rfl
    · obtain rfl : d = hops := by omega
      refine wl_hops hl fun j hj => ?_
      rcases Nat.lt_or_ge j d with h9 | h9
      · exact goes d (by omega) hq2 j h9
      · obtain rfl : j = d := by omega
        have h3 := key j hq2 he
        rw [mW_lt hd] at h3
        exact end_no he h3.symm
theorem wlk_left {w w' : World} {N : TypeId} {m d : Nat} {P : Nat → Mb × Bool} {M0 : Mb} {hops : Nat} {vr : Value} (hd : d < m) (hqd : qW P hops d = true) (hq : ∀ j, j < d → qW P hops j = false)
    (hO : Owns w' w.heap.size N 1 vr (jW M0 P hops (d + 1)).length (intC (jW M0 P hops (d + 1)))) (hN : Owns w' w.heap.size N 1 nilV ([] : List Int).length (intC [])) :
    WlkP w N m P M0 hops (.tuple #[jU P vr (d + 1), .agg (mbArr (jM P (d + 1))), .int .i64 (jE P hops (d + 1))]) w' := by
  cases ho : (P d).2 with
  | true =>
    obtain ⟨j1, j2, j3, j4⟩ := j_own (M0 := M0) (hops := hops) vr ho
    rw [j1] at hO
    rw [j2, j3, j4]
    exact ⟨_, _, _, _, rfl, .inr ⟨d, hd, hq, .inl ⟨rfl, rfl, rfl, ho⟩⟩, hO⟩
  | false =>
    have hh : hops ≤ d := by
      unfold qW at hqd
      rw [ho, Bool.false_or] at hqd
      exact of_decide_eq_true hqd
    obtain ⟨j1, j2, j3, j4⟩ := j_hops (M0 := M0) vr ho hh
    rw [j2, j3, j4]
    exact ⟨_, _, _, _, rfl, .inr ⟨d, hd, hq, .inr ⟨rfl, rfl, rfl, ho, hh⟩⟩, hN⟩
/-! ### who keeps -/
section
variable {P : Program} {fn : Func} {w w0 : World} {N : Nat} {a : Act} {L : List (Nat × Value)} {B : List Own}
/-- the call's end behind a range over a function: results that lie in a cell, a row and a cell -/
theorem e_cell_row_cell_MS {T : Asrt} {p q r : Tmp} {b b' b'' n D : Nat} {C C' C'' : Array Value} {V U : Value} {t t' t'' u u' u'' : TypeId} (i i' i'' j : Nat) (hres : fn.results = #[.cell p t, .cell q t', .cell r t'']) (h : Sl N a L [{ target := .collected D, args := #[] }]) (s : St w0 B w) (ho : One P t) (hr : Row P t' n) (ho2 : One P t'')
    (hp : lk L p = some (.pointer (some ⟨b, 0, none⟩))) (hq : lk L q = some (.pointer (some ⟨b', 0, none⟩))) (hr9 : lk L r = some (.pointer (some ⟨b'', 0, none⟩)))
    (hj : B[j]? = some (.blk D (.deferred (some [])))) (hij : (B.set j (.blk D (.deferred none)))[i]? = some (.blk b (.cells C u))) (hij' : (B.set j (.blk D (.deferred none)))[i']? = some (.blk b' (.cells C' u'))) (hij2 : (B.set j (.blk D (.deferred none)))[i'']? = some (.blk b'' (.cells C'' u'')))
    (hC : C[0]? = some V) (hn : C'.size = n) (hC2 : C''[0]? = some U) (hT : ∀ w', St w0 (B.set j (.blk D (.deferred none))) w' → T (.tuple #[V, .agg C', U]) w') : bodyPostM (FR none) 0 P fn (Ret w0 T) .ret a w := by
  show LeavesInM (FR none) 0 P fn a.tmps (Ret w0 T) a.defers .returning w
  rw [h.defers]
  have s2 := s.putObj j hj (.deferred none)
  refine ⟨by simp, .inl ⟨D, _, rfl, run_takeDeferred (s.get j hj), ?_⟩⟩
  have hp' : a.tmps[p]?.getD undef = .pointer (some ⟨b, 0, none⟩) := by simpa using h.holds p _ hp
  have hq' : a.tmps[q]?.getD undef = .pointer (some ⟨b', 0, none⟩) := by simpa using h.holds q _ hq
  have hr' : a.tmps[r]?.getD undef = .pointer (some ⟨b'', 0, none⟩) := by simpa using h.holds r _ hr9
  have hc : (w.putObj D (.deferred none)).cell? ⟨b, 0, none⟩ = some V := by rw [cell_of_row _ b 0 C u (0, 0) (s2.get i hij)]; exact hC
  have hc2 : (w.putObj D (.deferred none)).cell? ⟨b'', 0, none⟩ = some U := by rw [cell_of_row _ b'' 0 C'' u'' (0, 0) (s2.get i'' hij2)]; exact hC2
  refine ⟨.tuple #[V, .agg C', U], ?_, _, rfl, hT _ s2, s2.ext⟩
  simp [results, hres, hp', hq', hr', asAddr, run_load_row hr _ b' C' u' (0, 0) (s2.get i' hij') hn, run_load_one ho _ _ hc, run_load_one ho2 _ _ hc2]
end
end Go.Proofs.YtndbijifgalpbaaGreat
