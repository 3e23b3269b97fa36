/- Members on the ring: ways, members found; own slices that are set; members that come in; the closest of those that are known; no Go in it. -/
import Derived.Test.YtndbijifgalpbaaEm
set_option linter.unusedVariables false
set_option linter.unusedSimpArgs false
set_option linter.unusedSectionVars false
namespace Go.Proofs.Ytndbijifgalpbaa
open Go.RowKit
/-! ### ways on the ring -/
def NN : Nat := 2 ^ 256
def fd (s x : Id) : Nat := (x - s).toNat
theorem fd_lt (s x : Id) : fd s x < NN := (x - s).isLt
theorem id_lt (x : Id) : x.toNat < NN := x.isLt
theorem fd_cases (s x : Id) : (s.toNat ≤ x.toNat ∧ fd s x + s.toNat = x.toNat) ∨ (x.toNat < s.toNat ∧ fd s x + s.toNat = NN + x.toNat) := by
  have h1 := id_lt s
  have h2 := id_lt x
  have h3 : fd s x = (NN - s.toNat + x.toNat) % NN := BitVec.toNat_sub ..
  by_cases h : s.toNat ≤ x.toNat
  · refine .inl ⟨h, ?_⟩
    have h4 : NN - s.toNat + x.toNat = (x.toNat - s.toNat) + NN := by omega
    rw [h3, h4, Nat.add_mod_right, Nat.mod_eq_of_lt (by omega)]
    omega
  · refine .inr ⟨by omega, ?_⟩
    rw [h3, Nat.mod_eq_of_lt (by omega)]
    omega
theorem fd_self (s : Id) : fd s s = 0 := by
  have h1 := fd_lt s s
  have h2 := id_lt s
  rcases fd_cases s s with h | h <;> omega
theorem fd_inj {s x y : Id} (h : fd s x = fd s y) : x = y := by
  have h1 := fd_cases s x
  have h2 := fd_cases s y
  have h3 := id_lt x
  have h4 := id_lt y
  exact BitVec.eq_of_toNat_eq (by omega)
theorem fd_zero {s x : Id} (h : fd s x = 0) : x = s := fd_inj (h.trans (fd_self s).symm)
theorem fd_ne {s x y : Id} (h : x ≠ y) : fd s x ≠ fd s y := fun e => h (fd_inj e)
/-- seen from another place -/
theorem fd_sh (s a x : Id) : (fd s a ≤ fd s x ∧ fd a x + fd s a = fd s x) ∨ (fd s x < fd s a ∧ fd a x + fd s a = NN + fd s x) := by
  have h1 := fd_cases s a
  have h2 := fd_cases s x
  have h3 := fd_cases a x
  have l1 := fd_lt s a
  have l2 := fd_lt s x
  have l3 := fd_lt a x
  omega
theorem fd_one (m : Id) : fd m (m + powI 0) = 1 := by
  unfold fd
  have h : m + powI 0 - m = powI 0 := s_way m 0
  rw [h]
  rfl
theorem fd_succ (m x : Id) : (x = m ∧ fd (m + powI 0) x + 1 = NN) ∨ (x ≠ m ∧ fd (m + powI 0) x + 1 = fd m x) := by
  have h1 := fd_sh m (m + powI 0) x
  rw [fd_one] at h1
  by_cases h : x = m
  · subst h
    rw [fd_self] at h1
    exact .inl ⟨rfl, by omega⟩
  · have h2 : fd m x ≠ 0 := fun e => h (fd_zero e)
    exact .inr ⟨h, by omega⟩
theorem inB_fd (x a b : Id) : inB x a b = true ↔ (a = b ∨ (x ≠ a ∧ fd a x ≤ fd a b)) := by
  unfold inB fd
  simp
theorem cmpI_pos (a b : Id) : 0 < cmpI a b ↔ b.toNat < a.toNat := by
  unfold cmpI
  split
  · omega
  · split <;> omega
/-! ### members -/
abbrev Mb := Int × Id
def zMb : Mb := (0, 0#256)
def nMb : Mb := (-1, 0#256)
def mbL (m : Mb) : List Value := .int .i64 m.1 :: (idArr m.2).toList
def mbArr (m : Mb) : Array Value := (mbL m).toArray
theorem mbL_len (m : Mb) : (mbL m).length = 33 := by simp [mbL]
theorem mbArr_size (m : Mb) : (mbArr m).size = 33 := by simp [mbArr, mbL_len]
theorem mbL_ones (m : Mb) : ∀ v ∈ mbL m, v.oneCell' = true := fun v hv => by
  rcases List.mem_cons.1 hv with rfl | hv
  · simp [Value.oneCell', Value.cells]
  · rw [idArr_bytes] at hv; exact bytesF_ones _ _ v hv
theorem mbArr_ones (m : Mb) : ∀ v ∈ (mbArr m).toList, v.oneCell' = true := mbL_ones m
theorem mbArr_no (m : Mb) : (mbArr m)[0]? = some (.int .i64 m.1) := rfl
theorem mbArr_id (m : Mb) : (mbArr m).extract 1 (1 + 32) = idArr m.2 := by
  apply Array.ext'
  rw [Array.toList_extract, List.extract_eq_take_drop]
  show (((mbL m).drop 1).take 32) = _
  exact List.take_of_length_le (by rw [List.length_drop, mbL_len]; exact Nat.le_refl _)
theorem mbArr_inj {x y : Mb} (h : (mbArr x).toList = (mbArr y).toList) : x = y := by
  have h' := Array.toList_inj.1 h
  have h0 := mbArr_no x; rw [h', mbArr_no] at h0
  have h2 := mbArr_id x; rw [h', mbArr_id] at h2
  simp at h0
  exact Prod.ext h0.symm (idArr_inj h2).symm
theorem mbEq (x y : Mb) : decide (x = y) = true ↔ (mbArr x).toList = (mbArr y).toList := by
  rw [decide_eq_true_eq]; exact ⟨fun h => by rw [h], mbArr_inj⟩
def mbCells (l : List Mb) : List Value := l.flatMap mbL
theorem mbCells_len (l : List Mb) : (mbCells l).length = l.length * 33 := cells_len _ 33 mbL_len l
theorem mbCells_app (l r : List Mb) : mbCells (l ++ r) = mbCells l ++ mbCells r := List.flatMap_append
theorem mbCells_one (x : Mb) : mbCells [x] = (mbArr x).toList := by simp [mbCells, mbArr]
theorem mbCells_ones (l : List Mb) : ∀ u ∈ mbCells l, u.oneCell' = true := fun u hu => by
  obtain ⟨x, _, hx⟩ := List.mem_flatMap.1 hu
  exact mbL_ones x u hx
theorem mb_el (l : List Mb) (j : Nat) (hj : j < l.length) : (((mbCells l).drop (j * 33)).take 33).toArray = mbArr l[j] := by
  unfold mbCells
  rw [cells_el _ 33 mbL_len l j hj]; rfl
theorem mb_take {w : World} {v : Value} {l : List Mb} (h : RdZ w v 33 l.length (mbCells l)) (k : Nat) (hk : k ≤ l.length) : RdZ w (cutV v k) 33 (l.take k).length (mbCells (l.take k)) := by
  have := h.cut k hk
  unfold mbCells at this
  rw [cells_take _ 33 mbL_len] at this
  rw [List.length_take, Nat.min_eq_left hk]
  exact this
theorem mbD {l : List Mb} {j : Nat} (hj : j < l.length) : l[j] = l.getD j zMb := by
  rw [List.getD_eq_getElem?_getD, List.getElem?_eq_getElem hj]; rfl
theorem mb_elD (l : List Mb) (j : Nat) (hj : j < l.length) : (((mbCells l).drop (j * 33)).take 33).toArray = mbArr (l.getD j zMb) := by rw [mb_el l j hj, mbD hj]
theorem mb_mem {l : List Mb} {j : Nat} (hj : j < l.length) : l.getD j zMb ∈ l := by rw [← mbD hj]; exact List.getElem_mem hj
theorem mb_at {l : List Mb} {x : Mb} (h : x ∈ l) : ∃ j, j < l.length ∧ l.getD j zMb = x := by
  obtain ⟨j, hj, rfl⟩ := List.mem_iff_getElem.1 h
  exact ⟨j, hj, (mbD hj).symm⟩
/-! ### which may be -/
def clash (m x : Mb) : Bool := decide (x.1 = m.1) || decide (x.2 = m.2)
def badR (l : List Mb) (d : Nat) : Bool := decide ((l.getD d zMb).1 < 0) || (decide (16 ≤ (l.getD d zMb).1) || (l.take d).any (clash (l.getD d zMb)))
def rightR (l : List Mb) : Bool := decide (l.length ≤ 16) && (List.range l.length).all fun d => !badR l d
structure Rg (l : List Mb) : Prop where
  len : l.length ≤ 16
  nos : ∀ m ∈ l, 0 ≤ m.1 ∧ m.1 < 16
  nd : l.Pairwise fun a b => a.1 ≠ b.1 ∧ a.2 ≠ b.2
theorem right_iffR (l : List Mb) : rightR l = true ↔ l.length ≤ 16 ∧ ∀ d, d < l.length → badR l d = false := by
  unfold rightR
  rw [Bool.and_eq_true, decide_eq_true_eq, List.all_eq_true]
  refine ⟨fun ⟨h1, h2⟩ => ⟨h1, fun d hd => ?_⟩, fun ⟨h1, h2⟩ => ⟨h1, fun d hd => ?_⟩⟩
  · have := h2 d (List.mem_range.2 hd); simpa using this
  · rw [h2 d (List.mem_range.1 hd)]; rfl
theorem right_leftR {l : List Mb} {d : Nat} (hd : d < l.length) (hb : badR l d = true) : rightR l = false := by
  rw [← Bool.not_eq_true, right_iffR]
  rintro ⟨_, h⟩
  rw [h d hd] at hb; cases hb
theorem right_longR {l : List Mb} (h : ¬ l.length ≤ 16) : rightR l = false := by
  rw [← Bool.not_eq_true, right_iffR]
  exact fun h9 => h h9.1
theorem right_doneR {l : List Mb} (h0 : l.length ≤ 16) (h : ∀ d, d < l.length → badR l d = false) : rightR l = true := (right_iffR l).2 ⟨h0, h⟩
theorem badR_iff {l : List Mb} {d : Nat} (hd : d < l.length) : badR l d = false ↔ (0 ≤ l[d].1 ∧ l[d].1 < 16) ∧ ∀ j (hj : j < d), l[j].1 ≠ l[d].1 ∧ l[j].2 ≠ l[d].2 := by
  unfold badR
  rw [← mbD hd, Bool.or_eq_false_iff, Bool.or_eq_false_iff, decide_eq_false_iff_not, decide_eq_false_iff_not, List.any_eq_false]
  refine ⟨fun ⟨h1, h2, h3⟩ => ⟨by omega, fun j hj => ?_⟩, fun ⟨h1, h2⟩ => ⟨by omega, by omega, fun x hx => ?_⟩⟩
  · have h4 := h3 l[j] (List.mem_iff_getElem.2 ⟨j, by rw [List.length_take]; omega, by rw [List.getElem_take]⟩)
    unfold clash at h4
    simpa using h4
  · obtain ⟨j, hj, rfl⟩ := List.mem_iff_getElem.1 hx
    rw [List.length_take] at hj
    rw [List.getElem_take]
    have := h2 j (by omega)
    unfold clash
    simpa using this
theorem rg_iff (l : List Mb) : rightR l = true ↔ Rg l := by
  rw [right_iffR]
  refine ⟨fun ⟨h1, h2⟩ => ⟨h1, fun m hm => ?_, List.pairwise_iff_getElem.2 fun i j hi hj hij => ?_⟩, fun h => ⟨h.len, fun d hd => (badR_iff hd).2 ⟨h.nos _ (List.getElem_mem hd), fun j hj => List.pairwise_iff_getElem.1 h.nd j d (by omega) hd hj⟩⟩⟩
  · obtain ⟨j, hj, rfl⟩ := List.mem_iff_getElem.1 hm
    exact ((badR_iff hj).1 (h2 j hj)).1
  · exact ((badR_iff hj).1 (h2 j hj)).2 i hij
theorem pw_eq {α : Type} {R : α → α → Prop} (hs : ∀ a b, R a b → R b a) {l : List α} (h : l.Pairwise R) {x y : α} (hx : x ∈ l) (hy : y ∈ l) (hn : ¬ R x y) : x = y := by
  obtain ⟨i, hi, rfl⟩ := List.mem_iff_getElem.1 hx
  obtain ⟨j, hj, rfl⟩ := List.mem_iff_getElem.1 hy
  rcases Nat.lt_trichotomy i j with h1 | h1 | h1
  · exact absurd (List.pairwise_iff_getElem.1 h i j hi hj h1) hn
  · subst h1; rfl
  · exact absurd (hs _ _ (List.pairwise_iff_getElem.1 h j i hj hi h1)) hn
theorem Rg.no {l : List Mb} (h : Rg l) {x y : Mb} (hx : x ∈ l) (hy : y ∈ l) (e : x.1 = y.1) : x = y :=
  pw_eq (fun _ _ h9 => ⟨h9.1.symm, h9.2.symm⟩) h.nd hx hy fun h9 => h9.1 e
theorem Rg.id {l : List Mb} (h : Rg l) {x y : Mb} (hx : x ∈ l) (hy : y ∈ l) (e : x.2 = y.2) : x = y :=
  pw_eq (fun _ _ h9 => ⟨h9.1.symm, h9.2.symm⟩) h.nd hx hy fun h9 => h9.2 e
theorem Rg.sub {l r : List Mb} (h : Rg l) (hs : r.Sublist l) : Rg r := ⟨Nat.le_trans hs.length_le h.len, fun m hm => h.nos m (hs.subset hm), h.nd.sublist hs⟩
theorem Rg.fd {l : List Mb} (h : Rg l) {x y : Mb} (s : Id) (hx : x ∈ l) (hy : y ∈ l) (hn : x ≠ y) : fd s x.2 ≠ fd s y.2 := fun e => hn (h.id hx hy (fd_inj e))
/-! ### the least, the greatest -/
def nearK (f : Mb → Nat) (l : List Mb) : Nat → Mb
  | 0 => l.getD 0 zMb
  | k + 1 => bif decide (f (l.getD (k + 1) zMb) < f (nearK f l k)) then l.getD (k + 1) zMb else nearK f l k
def farK (f : Mb → Nat) (l : List Mb) : Nat → Mb
  | 0 => l.getD 0 zMb
  | k + 1 => bif decide (f (farK f l k) < f (l.getD (k + 1) zMb)) then l.getD (k + 1) zMb else farK f l k
theorem nearK_mem (f : Mb → Nat) (l : List Mb) : ∀ k, k < l.length → nearK f l k ∈ l
  | 0, h => mb_mem h
  | k + 1, h => by
    unfold nearK
    cases decide (f (l.getD (k + 1) zMb) < f (nearK f l k)) with
    | true => exact mb_mem h
    | false => exact nearK_mem f l k (by omega)
theorem farK_mem (f : Mb → Nat) (l : List Mb) : ∀ k, k < l.length → farK f l k ∈ l
  | 0, h => mb_mem h
  | k + 1, h => by
    unfold farK
    cases decide (f (farK f l k) < f (l.getD (k + 1) zMb)) with
    | true => exact mb_mem h
    | false => exact farK_mem f l k (by omega)
theorem nearK_le (f : Mb → Nat) (l : List Mb) : ∀ k j, j ≤ k → f (nearK f l k) ≤ f (l.getD j zMb)
  | 0, j, h => by obtain rfl : j = 0 := by omega
                  exact Nat.le_refl _
  | k + 1, j, h => by
    unfold nearK
    by_cases hj : j = k + 1
    · subst hj
      cases hd : decide (f (l.getD (k + 1) zMb) < f (nearK f l k)) with
      | true => exact Nat.le_refl _
      | false => exact Nat.le_of_not_lt (of_decide_eq_false hd)
    · have h1 := nearK_le f l k j (by omega)
      cases hd : decide (f (l.getD (k + 1) zMb) < f (nearK f l k)) with
      | true => exact Nat.le_trans (Nat.le_of_lt (of_decide_eq_true hd)) h1
      | false => exact h1
theorem farK_ge (f : Mb → Nat) (l : List Mb) : ∀ k j, j ≤ k → f (l.getD j zMb) ≤ f (farK f l k)
  | 0, j, h => by obtain rfl : j = 0 := by omega
                  exact Nat.le_refl _
  | k + 1, j, h => by
    unfold farK
    by_cases hj : j = k + 1
    · subst hj
      cases hd : decide (f (farK f l k) < f (l.getD (k + 1) zMb)) with
      | true => exact Nat.le_refl _
      | false => exact Nat.le_of_not_lt (of_decide_eq_false hd)
    · have h1 := farK_ge f l k j (by omega)
      cases hd : decide (f (farK f l k) < f (l.getD (k + 1) zMb)) with
      | true => exact Nat.le_trans h1 (Nat.le_of_lt (of_decide_eq_true hd))
      | false => exact h1
def wayF (s : Id) (m : Mb) : Nat := fd s m.2
def ownL (l : List Mb) (x : Id) : Mb := nearK (wayF x) l (l.length - 1)
def befL (l : List Mb) (m : Mb) : Mb := farK (wayF m.2) l (l.length - 1)
def nxtL (l : List Mb) (m : Mb) : Mb := ownL l (m.2 + powI 0)
theorem own_mem {l : List Mb} (x : Id) (h : 0 < l.length) : ownL l x ∈ l := nearK_mem _ l _ (by omega)
theorem own_le {l : List Mb} (x : Id) {y : Mb} (hy : y ∈ l) : fd x (ownL l x).2 ≤ fd x y.2 := by
  obtain ⟨j, hj, rfl⟩ := mb_at hy
  exact nearK_le (wayF x) l _ j (by omega)
theorem mem_pos {l : List Mb} {y : Mb} (hy : y ∈ l) : 0 < l.length := List.length_pos_iff.2 (List.ne_nil_of_mem hy)
theorem own_is {l : List Mb} (h : Rg l) (x : Id) {o : Mb} (ho : o ∈ l) (hle : ∀ y ∈ l, fd x o.2 ≤ fd x y.2) : ownL l x = o := by
  have h1 := own_mem x (mem_pos ho)
  have h2 := own_le x ho
  have h3 := hle _ h1
  exact h.id h1 ho (fd_inj (s := x) (by omega))
theorem bef_mem {l : List Mb} (m : Mb) (h : 0 < l.length) : befL l m ∈ l := farK_mem _ l _ (by omega)
theorem bef_ge {l : List Mb} (m : Mb) {y : Mb} (hy : y ∈ l) : fd m.2 y.2 ≤ fd m.2 (befL l m).2 := by
  obtain ⟨j, hj, rfl⟩ := mb_at hy
  exact farK_ge (wayF m.2) l _ j (by omega)
theorem bef_is {l : List Mb} (h : Rg l) (m : Mb) {o : Mb} (ho : o ∈ l) (hle : ∀ y ∈ l, fd m.2 y.2 ≤ fd m.2 o.2) : befL l m = o := by
  have h1 := bef_mem m (mem_pos ho)
  have h2 := bef_ge m ho
  have h3 := hle _ h1
  exact h.id h1 ho (fd_inj (s := m.2) (by omega))
/-! ### the next one -/
theorem nxt_mem {l : List Mb} {m : Mb} (hm : m ∈ l) : nxtL l m ∈ l := own_mem _ (mem_pos hm)
theorem nxt_le {l : List Mb} (h : Rg l) {m y : Mb} (hm : m ∈ l) (hy : y ∈ l) (hn : y ≠ m) : nxtL l m ≠ m ∧ fd m.2 (nxtL l m).2 ≤ fd m.2 y.2 := by
  have h0 := own_le (m.2 + powI 0) hy
  have h1 := fd_succ m.2 (nxtL l m).2
  have h2 := fd_succ m.2 y.2
  have h3 := fd_lt m.2 y.2
  change fd (m.2 + powI 0) (nxtL l m).2 ≤ _ at h0
  rcases h2 with h2 | h2
  · exact absurd (h.id hy hm h2.1) hn
  · rcases h1 with h1 | h1
    · omega
    · exact ⟨fun e => h1.1 (by rw [e]), by omega⟩
/-- who is ahead of the next one -/
theorem bef_nxt {l : List Mb} (h : Rg l) {m : Mb} (hm : m ∈ l) : befL l (nxtL l m) = m := by
  refine bef_is h _ hm fun y hy => ?_
  by_cases hym : y = m
  · subst hym; exact Nat.le_refl _
  · obtain ⟨h1, h2⟩ := nxt_le h hm hy hym
    have h3 := fd_sh m.2 (nxtL l m).2 y.2
    have h4 := fd_sh m.2 (nxtL l m).2 m.2
    rw [fd_self] at h4
    have h5 : fd m.2 (nxtL l m).2 ≠ 0 := fun e => h1 (h.id (nxt_mem hm) hm (fd_zero e))
    have h6 := fd_lt m.2 y.2
    omega
/-- it belongs to the one for which it is on the way from the one ahead -/
theorem own_in {l : List Mb} (h : Rg l) (x : Id) {m : Mb} (hm : m ∈ l) : inB x (befL l m).2 m.2 = true ↔ m = ownL l x := by
  have hb := bef_mem m (mem_pos hm)
  have ho := own_mem x (mem_pos hm)
  rw [inB_fd]
  have k1 := fd_sh m.2 (befL l m).2 x
  have k2 := fd_sh m.2 (befL l m).2 m.2
  have k3 := fd_lt m.2 (befL l m).2
  have k4 := fd_lt m.2 x
  rw [fd_self] at k2
  have k5 := fd_sh m.2 x m.2
  rw [fd_self] at k5
  constructor
  · intro hi
    refine (own_is h x hm fun y hy => ?_).symm
    have h1 := bef_ge m hy
    have h2 := fd_sh m.2 x y.2
    rcases hi with hi | ⟨hi, hj⟩
    · rw [hi, fd_self] at h1
      have h3 : fd m.2 y.2 = 0 := by omega
      rw [fd_zero h3]; exact Nat.le_refl _
    · have h5 : fd m.2 x ≠ fd m.2 (befL l m).2 := fd_ne hi
      have h4 := fd_lt x y.2
      omega
  · intro hi
    by_cases hbm : (befL l m).2 = m.2
    · exact .inl hbm
    · right
      have h1 := own_le x hb
      rw [← hi] at h1
      have h2 := fd_sh m.2 x (befL l m).2
      have h3 : fd m.2 (befL l m).2 ≠ 0 := fun e => hbm (fd_zero e)
      refine ⟨fun e => ?_, ?_⟩
      · rw [e, fd_self] at h1
        have : m.2 = (befL l m).2 := fd_zero (by omega)
        exact hbm this.symm
      · by_cases h5 : fd m.2 x = fd m.2 (befL l m).2
        · have := fd_inj h5
          rw [this, fd_self]; exact Nat.zero_le _
        · omega
/-! ### one that comes, one that goes -/
end Go.Proofs.Ytndbijifgalpbaa

namespace Go.Proofs.Ytndbijifgalpbaa
open Go.RowKit
/-! ### what the walks of members want: builds, comparisons -/
theorem mbArr_list (m : Mb) : (mbArr m).toList = Value.int .i64 m.1 :: (idArr m.2).toList := rfl
theorem mb_zero : mbArr zMb = (Value.int .i64 0 :: List.replicate 32 (Value.int .u8 0)).toArray := by
  unfold mbArr mbL zMb; rw [idArr_zero]; rfl
theorem mbArr_f0 (m : Mb) : ((mbArr m).toList.drop 0).take 1 = [Value.int .i64 m.1] := rfl
theorem mbArr_f1 (m : Mb) : ((mbArr m).toList.drop 1).take 32 = (bytesF (byteAt m.2) 32).toList := by
  rw [mbArr_list, List.drop_succ_cons, List.drop_zero, List.take_of_length_le (by simp), idArr_bytes]
def mbZ : List (List Value) := [[.int .i64 0], List.replicate 32 (.int .u8 0)]
section
variable {P : Program} {ρ : Operand → Value} {d : Option Tmp} {ty : TypeId} {pos : String} {af : Array Edge} {g : Option (Nat × Bool)} {x y : Operand} {t : TypeId}
theorem ru_build_mb0 (S : Stt P t mbZ) : RunsTo P ⟨d, .build t #[], ty, pos, af, g⟩ ρ (.agg (mbArr zMb)) := by
  have := ru_build_st (P := P) (ρ := ρ) (d := d) (ty := ty) (pos := pos) (af := af) (g := g) (parts := #[]) S [] (by simp) (fun i v hm => by simp at hm) (D := (mbArr zMb).toList) (by rw [mb_zero]; rfl)
  simpa using this
theorem ru_build_mb1 {q : Int} (S : Stt P t mbZ) (hx : ρ x = .int .i64 q) : RunsTo P ⟨d, .build t #[(0, x)], ty, pos, af, g⟩ ρ (.agg (mbArr (q, 0#256))) := by
  have := ru_build_st (P := P) (ρ := ρ) (d := d) (ty := ty) (pos := pos) (af := af) (g := g) (parts := #[(0, x)]) S [(0, .int .i64 q)] (by simp [hx]) (fun i v hm => by simp at hm; rcases hm with ⟨rfl, rfl⟩; exact ⟨_, rfl, rfl⟩) (D := (mbArr (q, 0#256)).toList) (by rw [mbArr_list, idArr_zero]; rfl)
  simpa using this
end
theorem mb_sz (m : Mb) : ∀ v ∈ ([.agg (mbArr m)] : List Value), v.cells.size = 33 := fun v hv => by
  rw [List.mem_singleton] at hv; subst hv; exact mbArr_size m
theorem one_mb (m : Mb) : ([Value.agg (mbArr m)].flatMap fun v => v.cells.toList) = (mbArr m).toList := by simp [Value.cells]
theorem mb_snoc (l : List Mb) (x : Mb) : mbCells l ++ (mbArr x).toList = mbCells (l ++ [x]) := by rw [mbCells_app, mbCells_one]
theorem anyM_of {l : List Mb} {p : Mb → Bool} {r : Int} (hr : (r = -1 ∧ ∀ x ∈ l, p x = false) ∨ ∃ k : Nat, ∃ hk : k < l.length, r = (k : Int) ∧ p l[k] = true) : decide (0 ≤ r) = l.any p := by
  rcases hr with ⟨rfl, h⟩ | ⟨k, hk, rfl, h⟩
  · symm
    refine (List.any_eq_false.2 fun x hx => ?_).trans (by decide)
    rw [h x hx]; decide
  · rw [decide_eq_true (by omega)]
    exact (List.any_eq_true.2 ⟨_, List.getElem_mem hk, h⟩).symm
/-! which may be: what is found where -/
theorem badR_0 {l : List Mb} {d : Nat} (h : decide ((l.getD d zMb).1 < 0) = true) : badR l d = true := by unfold badR; rw [h]; rfl
theorem badR_1 {l : List Mb} {d : Nat} (h : decide (16 ≤ (l.getD d zMb).1) = true) : badR l d = true := by unfold badR; rw [h]; simp
theorem badR_2 {l : List Mb} {d : Nat} (h0 : decide ((l.getD d zMb).1 < 0) = false) (h1 : decide (16 ≤ (l.getD d zMb).1) = false) : badR l d = (l.take d).any (clash (l.getD d zMb)) := by unfold badR; rw [h0, h1]; rfl
theorem any_take {l : List Mb} {d : Nat} {p : Mb → Bool} (hd : d ≤ l.length) (h : ∀ j, j < d → p (l.getD j zMb) = false) : (l.take d).any p = false := by
  rw [List.any_eq_false]
  intro x hx
  obtain ⟨j, hj, rfl⟩ := List.mem_iff_getElem.1 hx
  rw [List.length_take] at hj
  rw [List.getElem_take, mbD (by omega), h j (by omega)]; decide
theorem any_takeT {l : List Mb} {d j : Nat} {p : Mb → Bool} (hd : d ≤ l.length) (hj : j < d) (h : p (l.getD j zMb) = true) : (l.take d).any p = true :=
  List.any_eq_true.2 ⟨l.getD j zMb, List.mem_iff_getElem.2 ⟨j, by rw [List.length_take]; omega, by rw [List.getElem_take, mbD (by omega)]⟩, h⟩
/-! the member of a number -/
def findR (l : List Mb) (no : Int) : Option Mb := l.find? fun m => decide (m.1 = no)
theorem find_at {l : List Mb} {no : Int} {k : Nat} (hk : k < l.length) (h : ∀ j, j < k → decide ((l.getD j zMb).1 = no) = false) (he : decide ((l.getD k zMb).1 = no) = true) : findR l no = some (l.getD k zMb) := by
  unfold findR
  rw [List.find?_eq_some_iff_getElem]
  refine ⟨he, k, hk, mbD hk, fun j hj => ?_⟩
  rw [mbD (by omega), h j hj]; rfl
theorem find_no {l : List Mb} {no : Int} {k : Nat} (hk : l.length ≤ k) (h : ∀ j, j < k → decide ((l.getD j zMb).1 = no) = false) : findR l no = none := by
  unfold findR
  rw [List.find?_eq_none]
  intro x hx
  obtain ⟨j, hj, rfl⟩ := mb_at hx
  rw [h j (by omega)]; decide
theorem find_mem {l : List Mb} {no : Int} {m : Mb} (h : findR l no = some m) : m ∈ l ∧ m.1 = no := by
  refine ⟨List.mem_of_find?_eq_some h, ?_⟩
  have := List.find?_some h
  exact of_decide_eq_true this
theorem find_is {l : List Mb} (h : Rg l) {m : Mb} (hm : m ∈ l) : findR l m.1 = some m := by
  cases hf : findR l m.1 with
  | none =>
    unfold findR at hf
    have := List.find?_eq_none.1 hf m hm
    simp at this
  | some x =>
    obtain ⟨h1, h2⟩ := find_mem hf
    rw [h.no h1 hm h2]
theorem find_gt {l : List Mb} {no : Int} : findR l no = none ∨ ∃ m, findR l no = some m ∧ m ∈ l ∧ m.1 = no := by
  cases h : findR l no with
  | none => exact .inl rfl
  | some m => exact .inr ⟨m, rfl, find_mem h⟩
def refF (l : List Mb) (no : Int) : Mb := (findR l no).getD nMb
/-! whom it belongs to -/
/-! the one ahead -/
/-! ### those that follow -/
def nxtK (l : List Mb) (m : Mb) : Nat → Mb
  | 0 => m
  | k + 1 => nxtL l (nxtK l m k)
theorem nxtK_mem {l : List Mb} {m : Mb} (hm : m ∈ l) : ∀ k, nxtK l m k ∈ l
  | 0 => hm
  | k + 1 => nxt_mem (nxtK_mem hm k)
def folL (l : List Mb) (m : Mb) (k : Nat) : List Mb := (List.range k).map fun i => nxtK l m (i + 1)
theorem fol_len (l : List Mb) (m : Mb) (k : Nat) : (folL l m k).length = k := by simp [folL]
theorem fol_get (l : List Mb) (m : Mb) {i k : Nat} (h : i < k) : (folL l m k).getD i zMb = nxtK l m (i + 1) := by
  rw [← mbD (by rw [fol_len]; exact h)]; simp [folL]
/-! all of them, each once, the own one last -/
/-! ### a closure that is called in an order that is drawn -/
section
variable {P : Program} {ops : List Oper} {K : Act → World → Prop} {l : List Oper} {a : Act} {w : World} {N : Nat} {L : List (Nat × Value)} {Df : List Deferred} {d : Tmp} {ty : TypeId} {pos : String} {af : Array Edge}
theorem w_callV {f : FuncId} {caps : List Value} {cal : Operand} {args : Array Operand} {tys : Array TypeId} (vs : List Value) {X : Value} (h : Sl N a L Df) (hf : Fnc P f) (hc : evo L cal = some (.func (.func f) #[] caps.toArray))
    (hC : ∀ w', Ext w w' → Calls P f (vs ++ caps).toArray w' (Ret w' (is X))) (hvs : args.toList.map (evo L) = vs.map some) (hd : Nat.blt d N = true)
    (k : ∀ a', Sl N a' ((d, X) :: L) Df → Wlk P ops.toArray K w l a') :
    Wlk P ops.toArray K w (⟨some d, .call { callee := .value cal, args := args, argTypes := tys }, ty, pos, af, none⟩ :: l) a :=
  w_does X h (fun w' hE => does_callV hf (h.ev hc) (evsA h hvs) (by rw [show vs.toArray ++ caps.toArray = (vs ++ caps).toArray from by simp]; exact hC w' hE)) hd k
end
section
variable {P : Program} {a : Act} {w w0 : World} {N : Nat} {L : List (Nat × Value)} {B : List Own} {fn : Func}
theorem e_tmp_MS {T : Asrt} {t : Tmp} {V : Value} {D : Nat} (j : Nat) (hres : fn.results = #[.tmp t]) (h : Sl N a L [{ target := .collected D, args := #[] }]) (s : St w0 B w) (hv : lk L t = some V)
    (hj : B[j]? = some (.blk D (.deferred (some [])))) (hT : ∀ w', St w0 (B.set j (.blk D (.deferred none))) w' → T V w') : bodyPostM (FR none) 0 P fn (Ret w0 T) .ret a w := by
  show LeavesInM (FR none) 0 P fn a.tmps (Ret w0 T) a.defers .returning w
  rw [h.defers]
  have s2 := s.putObj j hj (.deferred none)
  exact ⟨by simp, .inl ⟨D, _, rfl, run_takeDeferred (s.get j hj), V, by rw [results_tmp hres, h.holds t V hv], V, rfl, hT _ s2, s2.ext⟩⟩
end
theorem idArr_ext (a : Id) : (idArr a).extract 0 (0 + 32) = idArr a := by
  apply Array.ext'
  rw [Array.toList_extract, List.extract_eq_take_drop, List.drop_zero, Nat.zero_add, Nat.sub_zero]
  exact List.take_of_length_le (by simp)
theorem mb_elT (l : List Mb) {j k : Nat} (hj : j < k) (hk : k ≤ l.length) : (((mbCells (l.take k)).drop (j * 33)).take 33).toArray = mbArr (l.getD j zMb) := by
  rw [mb_el (l.take k) j (by rw [List.length_take]; omega), List.getElem_take, mbD (by omega)]
theorem clash_1 {m x : Mb} (h : decide (x.1 = m.1) = true) : clash m x = true := by unfold clash; rw [h]; rfl
theorem clash_2 {m x : Mb} (h : decide (x.1 = m.1) = false) : clash m x = decide (x.2 = m.2) := by unfold clash; rw [h]; rfl
theorem takeD {l : List Mb} {d : Nat} (hd : d < l.length) : l.take (d + 1) = l.take d ++ [l.getD d zMb] := by rw [List.take_succ_eq_append_getElem hd, mbD hd]
theorem eqM_next {l r : List Mb} {k : Nat} (h : ∀ j, j < k → l.getD j zMb = r.getD j zMb) (he : l.getD k zMb = r.getD k zMb) : ∀ j, j < k + 1 → l.getD j zMb = r.getD j zMb := fun j hj => by
  by_cases h1 : j < k
  · exact h j h1
  · obtain rfl : j = k := by omega
    exact he
theorem eqM_yes {l r : List Mb} (hl : l.length = r.length) (h : ∀ j, j < l.length → l.getD j zMb = r.getD j zMb) : l = r := by
  apply List.ext_getElem hl
  intro i h1 h2
  rw [mbD h1, mbD h2, h i h1]
end Go.Proofs.Ytndbijifgalpbaa

namespace Go.Proofs.Ytndbijifgalpbaa
open Go.RowKit
/-! ### an own slice that is made, and an element of it that is set -/
section
variable {P : Program} {ops : Array Oper} {Q : Act → World → Prop} {l : List Oper} {a : Act} {w w0 : World} {N : Nat} {L : List (Nat × Value)} {Df : List Deferred} {B : List Own} {d : Tmp} {ty : TypeId} {pos : String} {af : Array Edge} {x y : Operand} {t e : TypeId}
theorem s_store_el {v : Value} {sz n : Nat} {xs ys : List Value} {D : Array Value} (i j : Nat) (h : Sl N a L Df) (s : St w0 B w) (hr : Row P t sz) (hx : evo L x = some (.pointer (some (elAddr v (j * sz))))) (hy : evo L y = some (.agg D)) (hi : B[i]? = some (.sl v e sz n xs)) (hD : D.size = sz) (hj : j < n) (hv : ∀ u ∈ D.toList, u.oneCell' = true)
    (hys : xs.take (j * sz) ++ D.toList ++ xs.drop (j * sz + sz) = ys)
    (k : ∀ w', St w0 (B.set i (.sl v e sz n ys)) w' → Lst P ops Q l a w') : Lst P ops Q (⟨none, .store t x y, ty, pos, af, none⟩ :: l) a w := by
  have ho := s.getSl i hi
  rcases ho.2 with ⟨_, h0⟩ | ⟨g, cap, cur, fz, rfl, hb, hg, hfz, hnc, hcm, hcs, htk⟩
  · omega
  · have hle : j * sz + sz ≤ n * sz := by
      have := Nat.mul_le_mul_right sz (show j + 1 ≤ n from hj)
      rwa [Nat.add_mul, Nat.one_mul] at this
    have hcl : n * sz ≤ cur.size := by rw [hcs]; exact Nat.mul_le_mul_right _ hnc
    have hxl : xs.length = n * sz := ho.1
    have hcx : cur.toList = xs ++ cur.toList.drop (n * sz) := by rw [← htk]; exact (List.take_append_drop _ _).symm
    have hyl : ys.length = n * sz := by
      rw [← hys]; simp only [List.length_append, List.length_take, List.length_drop, Array.length_toList]; omega
    have hnew : cur.toList.take (j * sz) ++ D.toList ++ cur.toList.drop (j * sz + D.size) = ys ++ cur.toList.drop (n * sz) := by
      rw [← hys, hD]
      conv => lhs; rw [hcx]
      rw [List.take_append_of_le_length (by omega), List.drop_append_of_le_length (by omega)]
      simp only [List.append_assoc]
    have hst : (storeVar t ⟨g, j * sz, none⟩ (.agg D)).run P w = .ok () (w.setRow g (ys ++ cur.toList.drop (n * sz)).toArray) := by
      have hs : (sizeOf t).run P w = .ok D.size w := by
        cases hq : P.info? t with
        | none => have := hr.size; simp [hq] at this
        | some i => have := hr.size; simp [hq] at this; simp [sizeOf, typeInfo, Sem.run_bind, hq, this, hD]
      have := run_storeCells_atG P g (j * sz) e fz D.toList 0 cur w hg hfz (by rw [Array.length_toList]; omega) hv
      simp only [Nat.add_zero, Array.length_toList] at this
      rw [hnew] at this
      simp [storeVar, Sem.run_bind, hs, Value.cells, this]
    have hsz : (ys ++ cur.toList.drop (n * sz)).toArray.size = cur.size := by
      rw [List.size_toArray, List.length_append, List.length_drop, hyl]; have := Array.length_toList (xs := cur); omega
    refine s_doesN (R := fun _ w' => w' = w.setRow g (ys ++ cur.toList.drop (n * sz)).toArray) ?_ fun w' _ hw => by
      subst hw
      refine k _ (s.upd i hi (p' := .sl _ e sz n ys) rfl rfl rfl (by simp) ⟨hyl, .inr ⟨g, cap, _, fz, rfl, hb, setRow_heap w g cur _ e fz hg, ?_, hnc, hcm, ?_, ?_⟩⟩ (fun k hk => .inl hk) (fun k hk hne => setRow_other w g k _ fun e9 => hne (Own.at_sl.2 (by simp [Value.ownBlock, e9]))))
      · rw [hsz]; exact hfz
      · rw [hsz]; exact hcs
      · show (ys ++ cur.toList.drop (n * sz)).take (n * sz) = ys
        rw [← hyl]; exact List.take_left
    unfold Does
    have hel : (some (elAddr (Value.slice (some ⟨g, 0, none⟩) n cap) (j * sz)) : Option Addr) = some ⟨g, j * sz, none⟩ := by show some (Addr.add _ _) = _; rw [Addr.add_lit, Nat.zero_add]
    rw [hel] at hx
    simp only [execOp, h.ev hx, h.ev hy, Instr.storeAt, Instr.sureAddr, Sem.run_bind, Sem.run_pure, Result.andThen_ok, hst]
end
theorem mb_set {l : List Mb} {j : Nat} (x : Mb) (hj : j < l.length) : (mbCells l).take (j * 33) ++ (mbArr x).toList ++ (mbCells l).drop (j * 33 + 33) = mbCells (l.set j x) := by
  have h1 : (mbCells l).take (j * 33) = mbCells (l.take j) := by unfold mbCells; rw [cells_take _ 33 mbL_len]
  have h2 : (mbCells l).drop (j * 33 + 33) = mbCells (l.drop (j + 1)) := by
    have := congrArg (List.drop ((j + 1) * 33)) (mbCells_app (l.take (j + 1)) (l.drop (j + 1)))
    rw [List.take_append_drop, List.drop_left' (by rw [mbCells_len, List.length_take, Nat.min_eq_left (by omega)])] at this
    rw [← this]; congr 1; omega
  rw [h1, h2, ← mbCells_one, ← mbCells_app, ← mbCells_app, List.set_eq_take_append_cons_drop, if_pos hj, List.append_assoc, List.singleton_append]
/-! ### a set of numbers as a map to true -/
theorem find_sb (n : Int) : ∀ (es : List MapEntry) (i : Nat), (∀ e ∈ es, ∃ m : Int, m ≠ n ∧ e.key = .int .i64 m) → Instr.findNow (.int .i64) (.int .i64 n) es i = some none
  | [], _, _ => rfl
  | e :: es, i, h => by
    obtain ⟨m, hm, he⟩ := h e List.mem_cons_self
    have ih := find_sb n es (i + 1) fun e9 h9 => h e9 (List.mem_cons_of_mem _ h9)
    unfold Instr.findNow
    have hs : Instr.sameNow (.int .i64) (.int .i64 n) (.int .i64 m) = some false := by
      simp only [Instr.sameNow, if_true]
      congr 1
      rw [beq_eq_false_iff_ne]; exact fun e9 => hm e9.symm
    rw [he]
    simp only [hs, ih]
section
variable {P : Program} {ops : Array Oper} {Q : Act → World → Prop} {l : List Oper} {a : Act} {w w0 : World} {N : Nat} {L : List (Nat × Value)} {Df : List Deferred} {B : List Own} {d : Tmp} {ty : TypeId} {pos : String} {af : Array Edge} {x y z : Operand} {t kt et : TypeId}
end
/-! ### for the laws -/
end Go.Proofs.Ytndbijifgalpbaa

namespace Go.Proofs.Ytndbijifgalpbaa
open Go.RowKit Go.ChangeShapes Go.WideShapes Go.ChangeAt
/-! ### members that come in -/
theorem open_mbL {H : Type} {enc : TypeId × Value → H} {P : Program} {w : World} {base : Nat} {spare : Nat → Bool} {held : Bool} {t tn ti e : TypeId} {f0 f1 : Field} {fuel : Nat} {cs : List Value} {x : DataW H × List MemPlace} (T : IdTy P ti e) (hc : P.cellsOf ti = 32) (hce : P.cellsOf e = 1) (hn : P.underlying tn = some (.int .i64)) (hcn : P.cellsOf tn = 1)
    (ht : P.underlying t = some (.struct #[f0, f1])) (h0 : f0.type = tn) (h1 : f1.type = ti) (o0 : f0.offset = 0) (o1 : f1.offset = 1) (hct : P.cellsOf t = 33) (h : DataW.trod enc P w base spare held fuel t cs = some x) : ∃ l : Mb, cs = (mbArr l).toList := by
  obtain ⟨xs, n, rfl, _, hl, hxl, hel⟩ := DataW.trod_struct ht h
  rw [hct] at hl
  have hx2 : xs.length = 2 := by simpa using hxl
  have e0 := hel 0 f0 rfl
  have e1 := hel 1 f1 rfl
  rw [h0, o0, hcn, List.getElem?_eq_getElem (by omega)] at e0
  rw [h1, o1, hc, List.getElem?_eq_getElem (by omega)] at e1
  obtain ⟨k, hk, _⟩ := DataW.trod_int hn e0
  obtain ⟨a, ha⟩ := open_idL T hc hce e1
  refine ⟨(k, a), ?_⟩
  rw [mbArr_list, ← ha]
  have hdrop : (cs.drop 1).take 32 = cs.drop 1 := List.take_of_length_le (by rw [List.length_drop]; omega)
  have hsplit : cs = (cs.drop 0).take 1 ++ cs.drop 1 := by
    rw [List.drop_zero, List.take_append_drop]
  rw [hk] at hsplit
  rw [hdrop]
  exact hsplit
theorem open_mb {H : Type} {enc : TypeId × Value → H} {P : Program} {W : World} {r : Reach} {b0 : Nat} {t tn ti e : TypeId} {f0 f1 : Field} {v : Value} {d : DataW H} {ps : List MemPlace} (T : IdTy P ti e) (hc : P.cellsOf ti = 32) (hce : P.cellsOf e = 1) (hn : P.underlying tn = some (.int .i64)) (hcn : P.cellsOf tn = 1)
    (ht : P.underlying t = some (.struct #[f0, f1])) (h0 : f0.type = tn) (h1 : f1.type = ti) (o0 : f0.offset = 0) (o1 : f1.offset = 1) (hct : P.cellsOf t = 33)
    (hval : Value.okWide P W r b0 t v) (h : DataW.Trod enc P W 0 (fun _ => true) true t v d ps) : ∃ l : Mb, v = .agg (mbArr l) := by
  have hv : ∃ cs, v = .agg cs := by
    unfold Value.okWide at hval
    simp only [ht] at hval
    obtain ⟨cs, h9, _⟩ := hval
    exact ⟨cs, h9⟩
  obtain ⟨cs, rfl⟩ := hv
  obtain ⟨fuel, hf⟩ := h
  obtain ⟨l, hl⟩ := open_mbL T hc hce hn hcn ht h0 h1 o0 o1 hct hf
  refine ⟨l, ?_⟩
  have : cs.toList = (mbArr l).toList := by simpa [Value.cells] using hl
  rw [Array.toList_inj.1 this]
theorem open_mbs {H : Type} {enc : TypeId × Value → H} {P : Program} {W : World} {r : Reach} {b0 : Nat} {ts t tn ti e : TypeId} {f0 f1 : Field} {v : Value} {d : DataW H} {ps : List MemPlace} (T : IdTy P ti e) (hc : P.cellsOf ti = 32) (hce : P.cellsOf e = 1) (hn : P.underlying tn = some (.int .i64)) (hcn : P.cellsOf tn = 1)
    (hts : P.underlying ts = some (.slice t)) (ht : P.underlying t = some (.struct #[f0, f1])) (h0 : f0.type = tn) (h1 : f1.type = ti) (o0 : f0.offset = 0) (o1 : f1.offset = 1) (hct : P.cellsOf t = 33)
    (hval : Value.okWide P W r b0 ts v) (h : DataW.Trod enc P W 0 (fun _ => true) true ts v d ps) : ∃ ls : List Mb, RdZ W v 33 ls.length (mbCells ls) := by
  obtain ⟨a, n, c, rfl⟩ := okWide_slice hts hval
  obtain ⟨fuel, hf⟩ := h
  rcases Go.Deep.open_slice hts hf with ⟨hcs, _⟩ | ⟨a', len, cap, m, k, D, Pl, hcs, _, hl, _, hm, _, hel⟩
  · have : Value.slice a n c = .slice none 0 0 := by simpa [Value.cells] using hcs
    exact ⟨[], rfl, .inl ⟨this, rfl⟩⟩
  · have hv : Value.slice a n c = .slice (some a') len cap := by simpa [Value.cells] using hcs
    have hml : len ≤ m := by rw [hm]; split <;> omega
    have each : ∀ i, ∃ l : Mb, i < len → Has W (a'.add (i * 33)) (mbArr l) := fun i => by
      by_cases hi : i < len
      · obtain ⟨cs', hc1, hc2⟩ := hel i (by omega)
        obtain ⟨l, rfl⟩ := open_mbL T hc hce hn hcn ht h0 h1 o0 o1 hct hc2
        refine ⟨l, fun _ j u hj => ?_⟩
        rw [hct] at hc1
        obtain ⟨_, hlen, hall⟩ := World.cells?_some hc1
        have hj33 : j < 33 := by have := (Array.getElem?_eq_some_iff.1 hj).1; rw [mbArr_size] at this; exact this
        have := hall j hj33
        rw [this, Array.getElem?_toList]; exact hj
      · exact ⟨zMb, fun h9 => absurd h9 hi⟩
    obtain ⟨L, hL⟩ := Classical.axiomOfChoice each
    refine ⟨(List.range len).map L, ?_, .inr ⟨a', cap, by rw [hv]; simp, by simpa using hl, ?_⟩⟩
    · rw [mbCells_len]
    · refine has_flat _ 33 (by decide) mbL_len _ fun i hi => ?_
      have hi' : i < len := by simpa using hi
      have h9 : ((List.range len).map L)[i] = L i := by simp
      rw [h9]
      exact hL i hi'
end Go.Proofs.Ytndbijifgalpbaa

namespace Go.Proofs.Ytndbijifgalpbaa
open Go.RowKit
/-! ### the closest of those that are known -/
/-- on the way from s9 to t9, and neither -/
def btw (s9 t9 : Id) (x : Mb) : Bool := decide (x.2 ≠ t9) && (decide (x.2 ≠ s9) && inB x.2 s9 t9)
theorem btw_iff {s9 t9 : Id} {x : Mb} : btw s9 t9 x = true ↔ x.2 ≠ t9 ∧ x.2 ≠ s9 ∧ (s9 = t9 ∨ fd s9 x.2 < fd s9 t9) := by
  unfold btw
  rw [Bool.and_eq_true, Bool.and_eq_true, decide_eq_true_eq, decide_eq_true_eq, inB_fd]
  constructor
  · rintro ⟨h1, h2, h3⟩
    refine ⟨h1, h2, h3.imp id fun h => ?_⟩
    have := fd_ne (s := s9) h1
    omega
  · rintro ⟨h1, h2, h3⟩
    exact ⟨h1, h2, h3.imp id fun h => ⟨h2, by omega⟩⟩
theorem btw_0 {s9 t9 : Id} {x : Mb} (h : decide (x.2 ≠ t9) = false) : btw s9 t9 x = false := by unfold btw; rw [h]; rfl
theorem btw_1 {s9 t9 : Id} {x : Mb} (h : decide (x.2 ≠ s9) = false) : btw s9 t9 x = false := by unfold btw; rw [h, Bool.false_and, Bool.and_false]
theorem btw_2 {s9 t9 : Id} {x : Mb} (h0 : decide (x.2 ≠ t9) = true) (h1 : decide (x.2 ≠ s9) = true) : btw s9 t9 x = inB x.2 s9 t9 := by unfold btw; rw [h0, h1]; rfl
theorem btw_ne {s9 t9 : Id} {x : Mb} (h : btw s9 t9 x = true) : x.2 ≠ s9 := (btw_iff.1 h).2.1
/-- one step: only a longer way counts -/
def csS (s9 : Id) (p : Mb × Id) (m : Mb) : Mb × Id := bif decide (p.2.toNat < fd s9 m.2) then (m, m.2 - s9) else p
def csK (s9 : Id) (r : List Mb) : Mb × Id := r.foldl (csS s9) (zMb, 0#256)
abbrev onW (s9 t9 : Id) (l : List Mb) : List Mb := l.filter (btw s9 t9)
theorem cs_snoc (s9 : Id) (r : List Mb) (m : Mb) : csK s9 (r ++ [m]) = csS s9 (csK s9 r) m := by unfold csK; rw [List.foldl_append]; rfl
theorem csS_yes {s9 : Id} {p : Mb × Id} {m : Mb} (h : p.2.toNat < fd s9 m.2) : csS s9 p m = (m, m.2 - s9) := by unfold csS; rw [decide_eq_true h]; rfl
theorem csS_no {s9 : Id} {p : Mb × Id} {m : Mb} (h : ¬ p.2.toNat < fd s9 m.2) : csS s9 p m = p := by unfold csS; rw [decide_eq_false h]; rfl
theorem cs_yes {s9 : Id} {r : List Mb} {d : Nat} (hd : d < r.length) (h : (csK s9 (r.take d)).2.toNat < fd s9 (r.getD d zMb).2) : csK s9 (r.take (d + 1)) = (r.getD d zMb, (r.getD d zMb).2 - s9) := by
  rw [takeD hd, cs_snoc, csS_yes h]
theorem cs_no {s9 : Id} {r : List Mb} {d : Nat} (hd : d < r.length) (h : ¬ (csK s9 (r.take d)).2.toNat < fd s9 (r.getD d zMb).2) : csK s9 (r.take (d + 1)) = csK s9 (r.take d) := by
  rw [takeD hd, cs_snoc, csS_no h]
/-- what is known of the step's state -/
def CsI (s9 : Id) (seen : List Mb) (p : Mb × Id) : Prop := (seen = [] ∧ p = (zMb, 0#256)) ∨ (p.1 ∈ seen ∧ p.2 = p.1.2 - s9 ∧ p.1.2 ≠ s9 ∧ ∀ x ∈ seen, fd s9 x.2 ≤ fd s9 p.1.2)
theorem csI_fold (s9 : Id) : ∀ (r seen : List Mb) (p : Mb × Id), CsI s9 seen p → (∀ x ∈ r, x.2 ≠ s9) → CsI s9 (seen ++ r) (r.foldl (csS s9) p)
  | [], seen, p, h, _ => by rw [List.append_nil]; exact h
  | m :: r, seen, p, h, hr => by
    have hm := hr m List.mem_cons_self
    have h0 : fd s9 m.2 ≠ 0 := fun e => hm (fd_zero e)
    have ih := csI_fold s9 r (seen ++ [m]) (csS s9 p m) ?_ fun x hx => hr x (List.mem_cons_of_mem _ hx)
    · rw [List.append_assoc] at ih; exact ih
    · right
      by_cases hc : p.2.toNat < fd s9 m.2
      · rw [csS_yes hc]
        refine ⟨by simp, rfl, hm, fun x hx => ?_⟩
        rcases List.mem_append.1 hx with hx | hx
        · rcases h with ⟨rfl, _⟩ | ⟨_, h2, _, h4⟩
          · cases hx
          · have := h4 x hx
            rw [h2] at hc
            exact Nat.le_of_lt (Nat.lt_of_le_of_lt this hc)
        · rw [List.mem_singleton.1 hx]; exact Nat.le_refl _
      · rw [csS_no hc]
        rcases h with ⟨rfl, rfl⟩ | ⟨h1, h2, h3, h4⟩
        · exact absurd (Nat.pos_of_ne_zero h0) hc
        · refine ⟨List.mem_append_left _ h1, h2, h3, fun x hx => ?_⟩
          rcases List.mem_append.1 hx with hx | hx
          · exact h4 x hx
          · rw [List.mem_singleton.1 hx]
            rw [h2] at hc
            exact Nat.le_of_not_lt hc
theorem cs_inv {s9 : Id} {r : List Mb} (hr : ∀ x ∈ r, x.2 ≠ s9) : (r = [] ∧ csK s9 r = (zMb, 0#256)) ∨ ((csK s9 r).1 ∈ r ∧ (csK s9 r).2 = (csK s9 r).1.2 - s9 ∧ (csK s9 r).1.2 ≠ s9 ∧ ∀ x ∈ r, fd s9 x.2 ≤ fd s9 (csK s9 r).1.2) := by
  have h := csI_fold s9 r [] (zMb, 0#256) (.inl ⟨rfl, rfl⟩) hr
  rw [List.nil_append] at h
  exact h
theorem on_ne {s9 t9 : Id} {l : List Mb} : ∀ x ∈ onW s9 t9 l, x.2 ≠ s9 := fun x hx => btw_ne (List.mem_filter.1 hx).2
/-- the longest way is none just if there is none -/
theorem cs_zero {s9 t9 : Id} {l : List Mb} : (csK s9 (onW s9 t9 l)).2 = 0#256 ↔ onW s9 t9 l = [] := by
  rcases cs_inv (on_ne (s9 := s9) (t9 := t9) (l := l)) with ⟨h1, h2⟩ | ⟨h1, h2, h3, _⟩
  · rw [h2]; exact ⟨fun _ => h1, fun _ => rfl⟩
  · refine ⟨fun e => ?_, fun e => by rw [e] at h1; cases h1⟩
    rw [h2] at e
    exact absurd (fd_zero (s := s9) (x := (csK s9 (onW s9 t9 l)).1.2) (by unfold fd; rw [e]; rfl)) h3
def csE (s9 t9 : Id) (l : List Mb) : Int := bif (onW s9 t9 l).isEmpty then 6 else 0
def csM (s9 t9 : Id) (l : List Mb) : Mb := (csK s9 (onW s9 t9 l)).1
theorem cs_none {s9 t9 : Id} {l : List Mb} (h : onW s9 t9 l = []) : csE s9 t9 l = 6 ∧ csM s9 t9 l = zMb := by unfold csE csM; rw [h]; exact ⟨rfl, rfl⟩
theorem cs_some {s9 t9 : Id} {l : List Mb} (h : onW s9 t9 l ≠ []) : csE s9 t9 l = 0 ∧ csM s9 t9 l ∈ l ∧ btw s9 t9 (csM s9 t9 l) = true ∧ ∀ x ∈ l, btw s9 t9 x = true → fd s9 x.2 ≤ fd s9 (csM s9 t9 l).2 := by
  refine ⟨by unfold csE; cases hr : onW s9 t9 l with | nil => exact absurd hr h | cons _ _ => rfl, ?_⟩
  rcases cs_inv (on_ne (s9 := s9) (t9 := t9) (l := l)) with ⟨h1, _⟩ | ⟨h1, _, _, h4⟩
  · exact absurd h1 h
  · obtain ⟨h5, h6⟩ := List.mem_filter.1 h1
    exact ⟨h5, h6, fun x hx hb => h4 x (List.mem_filter.2 ⟨hx, hb⟩)⟩
theorem csE_cases (s9 t9 : Id) (l : List Mb) : (onW s9 t9 l = [] ∧ csE s9 t9 l = 6) ∨ (onW s9 t9 l ≠ [] ∧ csE s9 t9 l = 0) := by
  by_cases h : onW s9 t9 l = []
  · exact .inl ⟨h, (cs_none h).1⟩
  · exact .inr ⟨h, (cs_some h).1⟩
theorem cs_ok {s9 t9 : Id} {l : List Mb} (h : csE s9 t9 l = 0) : onW s9 t9 l ≠ [] := by
  rcases csE_cases s9 t9 l with h9 | h9
  · omega
  · exact h9.1
theorem on_some {s9 t9 : Id} {l : List Mb} {x : Mb} (hx : x ∈ l) (h : btw s9 t9 x = true) : onW s9 t9 l ≠ [] := List.ne_nil_of_mem (List.mem_filter.2 ⟨hx, h⟩)
/-! the reference's -/
/-! the laws: nearer; with one more; in another order -/
theorem near_lt {s9 t9 : Id} {l : List Mb} (h : onW s9 t9 l ≠ []) (hn : t9 ≠ s9) : fd (csM s9 t9 l).2 t9 < fd s9 t9 := by
  obtain ⟨_, _, h3, _⟩ := cs_some h
  obtain ⟨_, h5, h6⟩ := btw_iff.1 h3
  have h7 := h6.resolve_left fun e => hn e.symm
  have h8 := fd_sh s9 (csM s9 t9 l).2 t9
  have h9 : fd s9 (csM s9 t9 l).2 ≠ 0 := fun e => h5 (fd_zero e)
  omega
/-! ### where fingers point to, their ideals -/
/-! ### an iterator that is filtered -/
/-- how many of the first d fit -/
def cntP (p : Mb → Bool) (l : List Mb) (d : Nat) : Nat := ((l.take d).filter p).length
theorem cntP_end (p : Mb → Bool) (l : List Mb) : cntP p l l.length = (l.filter p).length := by unfold cntP; rw [List.take_length]
theorem cntP_yes {p : Mb → Bool} {l : List Mb} {d : Nat} (hd : d < l.length) (h : p (l.getD d zMb) = true) : cntP p l (d + 1) = cntP p l d + 1 := by
  unfold cntP; rw [takeD hd, List.filter_append, List.filter_cons, if_pos h, List.length_append]; rfl
theorem cntP_no {p : Mb → Bool} {l : List Mb} {d : Nat} (hd : d < l.length) (h : p (l.getD d zMb) = false) : cntP p l (d + 1) = cntP p l d := by
  unfold cntP; rw [takeD hd, List.filter_append, List.filter_cons, if_neg (by rw [h]; decide)]; simp
theorem cntP_at {p : Mb → Bool} {l : List Mb} {d : Nat} (hd : d < l.length) (h : p (l.getD d zMb) = true) : cntP p l d < (l.filter p).length ∧ (l.filter p).getD (cntP p l d) zMb = l.getD d zMb := by
  have e : l.filter p = (l.take d).filter p ++ l.getD d zMb :: (l.drop (d + 1)).filter p := by
    have h1 : l = l.take d ++ l.getD d zMb :: l.drop (d + 1) := by
      rw [← mbD hd, ← List.drop_eq_getElem_cons hd, List.take_append_drop]
    rw [congrArg (List.filter p) h1, List.filter_append, List.filter_cons, if_pos h]
  constructor
  · rw [e]; unfold cntP; rw [List.length_append, List.length_cons]; omega
  · rw [e]; unfold cntP
    rw [List.getD_eq_getElem?_getD, List.getElem?_append_right (Nat.le_refl _), Nat.sub_self]; rfl
end Go.Proofs.Ytndbijifgalpbaa

namespace Go.Proofs.Ytndbijifgalpbaa
open Go.RowKit
/-! ### contracts over the caller's own of functions with marks -/
section
variable {P : Program} {a : Act} {w w0 : World} {N : Nat} {L : List (Nat × Value)} {B : List Own} {fn : Func} {T : Asrt} {R : Ending → World → Prop}
theorem c_enterFM {f : FuncId} {c : Code} {args : List Value} {n : Nat} (hf : P.funcs[f]? = some fn) (hb : fn.body = some c) (hn : fn.ntmps = n) (hs : Nat.ble args.length n = true) (L : List (Nat × Value)) (hL : ∀ p ∈ L, args[p.1]? = some p.2)
    (h : ∀ a, Sl n a L → c.wpIn (FR none) 0 P (bodyPostM (FR none) 0 P fn R) a w) : Calls P f args.toArray w R := by
  refine callsIn_wide.1 (callsIn_of_wp_marks (n := 0) hf hb trivial ?_)
  rw [hn]
  exact h _ (Sl.enter L (by simpa using hs) (by simpa using hL))
theorem e_noneFM_end {D : Nat} (j : Nat) (hres : fn.results = #[]) (h : Sl N a L [{ target := .collected D, args := #[] }]) (s : St w0 B w)
    (hj : B[j]? = some (.blk D (.deferred (some [])))) (hR : ∀ w', St w0 (B.set j (.blk D (.deferred none))) w' → R (.returned (.tuple #[])) w') : bodyPostM (FR none) 0 P fn R .normal a w := by
  show LeavesInM (FR none) 0 P fn a.tmps R a.defers .returning w
  rw [h.defers]
  have s2 := s.putObj j hj (.deferred none)
  exact ⟨by simp, .inl ⟨D, _, rfl, run_takeDeferred (s.get j hj), _, results_none hres _ _ _, hR _ s2⟩⟩
theorem e_row_tmp_M {p q : Tmp} {b n D : Nat} {C : Array Value} {V : Value} {t u : TypeId} (i j : Nat) (hres : fn.results = #[.cell p t, .tmp q]) (h : Sl N a L [{ target := .collected D, args := #[] }]) (s : St w0 B w) (hr : Row P t n) (hp : lk L p = some (.pointer (some ⟨b, 0, none⟩))) (hq : lk L q = some V)
    (hj : B[j]? = some (.blk D (.deferred (some [])))) (hij : (B.set j (.blk D (.deferred none)))[i]? = some (.blk b (.cells C u))) (hn : C.size = n) (hT : ∀ w', T (.tuple #[.agg C, V]) w') : bodyPostM (FR none) 0 P fn (Ret w0 T) .ret a w := by
  show LeavesInM (FR none) 0 P fn a.tmps (Ret w0 T) a.defers .returning w
  rw [h.defers]
  have s2 := s.putObj j hj (.deferred none)
  refine ⟨by simp, .inl ⟨D, _, rfl, run_takeDeferred (s.get j hj), ?_⟩⟩
  have hp' : a.tmps[p]?.getD undef = .pointer (some ⟨b, 0, none⟩) := by simpa using h.holds p _ hp
  have hq' : a.tmps[q]?.getD undef = V := by simpa using h.holds q _ hq
  refine ⟨.tuple #[.agg C, V], ?_, _, rfl, hT _, s2.ext⟩
  simp [results, hres, hp', hq', asAddr, run_load_row hr _ b C u (0, 0) (s2.get i hij) hn]
end
/-! ### a field of a slice's element -/
theorem RdZ.elF {w : World} {v : Value} {sz n : Nat} {xs : List Value} (h : RdZ w v sz n xs) (j off m : Nat) (hj : j < n) (hz : 0 < sz) {C D : Array Value} (hC : ((xs.drop (j * sz)).take sz).toArray = C) (hD : C.extract off (off + m) = D) : Has w (elAddr v (j * sz + off)) D := by
  have h1 := (h.el j hj hz hC).sub off m hD
  obtain ⟨p, q, c, rfl⟩ := h.some (by omega)
  have e : (elAddr (.slice (Option.some p) q c) (j * sz)).add off = elAddr (.slice (Option.some p) q c) (j * sz + off) := add_add _ _ _
  rwa [e] at h1
end Go.Proofs.Ytndbijifgalpbaa
