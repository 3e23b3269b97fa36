/- Hosts: wants, hints, an inbox; what they ask, send, take; hosts that come in; no Go in it. -/
import Derived.Test.YthjkhnhiciamaaaSv
set_option linter.unusedVariables false
set_option linter.unusedSimpArgs false
set_option linter.unusedSectionVars false
namespace Go.Proofs.Ythjkhnhiciamaaa
open Go.RowKit
/-! ### hosts: their number, gate, wants, hints, inbox -/
abbrev Wn := Id × Int
abbrev Hn := Id × Int × Int
structure Ho where
  no : Int
  gt : Int
  ws : List Wn
  hs : List Hn
  bx : List ByteArray
deriving DecidableEq
def zHo : Ho := ⟨0, 0, [], [], []⟩
def zWn : Wn := (0#256, 0)
def zHn : Hn := (0#256, 0, 0)
def wnL (t : Wn) : List Value := (idArr t.1).toList ++ [.int .i64 t.2]
def wnArr (t : Wn) : Array Value := (wnL t).toArray
theorem wnL_len (t : Wn) : (wnL t).length = 33 := by simp [wnL]
theorem wnArr_size (t : Wn) : (wnArr t).size = 33 := by simp [wnArr, wnL_len]
theorem wnL_ones (t : Wn) : ∀ v ∈ wnL t, v.oneCell' = true := fun v hv => by
  unfold wnL at hv
  rcases List.mem_append.1 hv with hv | hv
  · rw [idArr_bytes] at hv; exact bytesF_ones _ _ v hv
  · rw [List.mem_singleton] at hv; subst hv; rfl
theorem wnArr_ones (t : Wn) : ∀ v ∈ (wnArr t).toList, v.oneCell' = true := wnL_ones t
theorem wn_f0 (t : Wn) : ((wnArr t).toList.drop 0).take 32 = (idArr t.1).toList := by
  show ((wnL t).drop 0).take 32 = _
  unfold wnL
  rw [List.drop_zero, List.take_left' (idA_len _)]
theorem wn_f1 (t : Wn) : ((wnArr t).toList.drop 32).take 1 = [Value.int .i64 t.2] := by
  show ((wnL t).drop 32).take 1 = _
  unfold wnL
  rw [List.drop_left' (idA_len _)]; rfl
theorem wnArr_id (t : Wn) : (wnArr t).extract 0 (0 + 32) = idArr t.1 := ext_lt9 _ _ _ _ (wn_f0 t)
theorem wnArr_life (t : Wn) : (wnArr t)[32]? = some (.int .i64 t.2) := by
  unfold wnArr wnL
  rw [List.getElem?_toArray, List.getElem?_append_right (by rw [idA_len]; exact Nat.le_refl _), idA_len]; rfl
theorem wnArr_inj {x y : Wn} (h : (wnArr x).toList = (wnArr y).toList) : x = y := by
  have h0 := wn_f0 x; rw [h, wn_f0] at h0
  have h1 := wn_f1 x; rw [h, wn_f1] at h1
  refine Prod.ext (idArr_inj (Array.toList_inj.1 h0)).symm ?_
  have := List.head_eq_of_cons_eq h1
  injection this with _ h2
  exact h2.symm
theorem wnEq (x y : Wn) : decide (x = y) = true ↔ (wnArr x).toList = (wnArr y).toList := by
  rw [decide_eq_true_eq]; exact ⟨fun h => by rw [h], wnArr_inj⟩
def wnZ : List (List Value) := [(idArr 0#256).toList, [.int .i64 0]]
theorem wn_zero : wnArr zWn = wnZ.flatten.toArray := by unfold wnArr wnL zWn wnZ; simp
def wnCells (l : List Wn) : List Value := l.flatMap wnL
theorem wnCells_len (l : List Wn) : (wnCells l).length = l.length * 33 := cells_len _ 33 wnL_len l
theorem wnCells_app (l r : List Wn) : wnCells (l ++ r) = wnCells l ++ wnCells r := List.flatMap_append
theorem wnCells_one (t : Wn) : wnCells [t] = (wnArr t).toList := by simp [wnCells, wnArr]
theorem wnCells_ones (l : List Wn) : ∀ u ∈ wnCells l, u.oneCell' = true := fun u hu => by
  obtain ⟨x, _, hx⟩ := List.mem_flatMap.1 hu
  exact wnL_ones x u hx
theorem wn_sz (m : Wn) : ∀ v ∈ ([.agg (wnArr m)] : List Value), v.cells.size = 33 := fun v hv => by
  rw [List.mem_singleton] at hv; subst hv; exact wnArr_size m
theorem one_wn (m : Wn) : ([Value.agg (wnArr m)].flatMap fun v => v.cells.toList) = (wnArr m).toList := by simp [Value.cells]
theorem wn_snoc (l : List Wn) (x : Wn) : wnCells l ++ (wnArr x).toList = wnCells (l ++ [x]) := by rw [wnCells_app, wnCells_one]
theorem wnD {l : List Wn} {j : Nat} (hj : j < l.length) : l[j] = l.getD j zWn := by
  rw [List.getD_eq_getElem?_getD, List.getElem?_eq_getElem hj]; rfl
theorem wn_el (l : List Wn) (j : Nat) (hj : j < l.length) : (((wnCells l).drop (j * 33)).take 33).toArray = wnArr (l.getD j zWn) := by
  unfold wnCells
  rw [cells_el _ 33 wnL_len l j hj, wnD hj]; rfl
theorem wn_mem {l : List Wn} {j : Nat} (hj : j < l.length) : l.getD j zWn ∈ l := by rw [← wnD hj]; exact List.getElem_mem hj
theorem wn_at {l : List Wn} {x : Wn} (h : x ∈ l) : ∃ j, j < l.length ∧ l.getD j zWn = x := by
  obtain ⟨j, hj, rfl⟩ := List.mem_iff_getElem.1 h
  exact ⟨j, hj, (wnD hj).symm⟩
theorem wn_take {w : World} {v : Value} {l : List Wn} (h : RdZ w v 33 l.length (wnCells l)) (k : Nat) (hk : k ≤ l.length) : RdZ w (cutV v k) 33 (l.take k).length (wnCells (l.take k)) := by
  have := h.cut k hk
  unfold wnCells at this
  rw [cells_take _ 33 wnL_len] at this
  rw [List.length_take, Nat.min_eq_left hk]
  exact this
/-! hints -/
def hnL (t : Hn) : List Value := (idArr t.1).toList ++ [.int .i64 t.2.1, .int .i64 t.2.2]
def hnArr (t : Hn) : Array Value := (hnL t).toArray
theorem hnL_len (t : Hn) : (hnL t).length = 34 := by simp [hnL]
theorem hnArr_size (t : Hn) : (hnArr t).size = 34 := by simp [hnArr, hnL_len]
theorem hnL_ones (t : Hn) : ∀ v ∈ hnL t, v.oneCell' = true := fun v hv => by
  unfold hnL at hv
  rcases List.mem_append.1 hv with hv | hv
  · rw [idArr_bytes] at hv; exact bytesF_ones _ _ v hv
  · simp only [List.mem_cons, List.not_mem_nil, or_false] at hv
    rcases hv with rfl | rfl <;> rfl
theorem hnArr_ones (t : Hn) : ∀ v ∈ (hnArr t).toList, v.oneCell' = true := hnL_ones t
theorem hn_f0 (t : Hn) : ((hnArr t).toList.drop 0).take 32 = (idArr t.1).toList := by
  show ((hnL t).drop 0).take 32 = _
  unfold hnL
  rw [List.drop_zero, List.take_left' (idA_len _)]
theorem hn_f1 (t : Hn) : ((hnArr t).toList.drop 32).take 1 = [Value.int .i64 t.2.1] := by
  show ((hnL t).drop 32).take 1 = _
  unfold hnL
  rw [List.drop_left' (idA_len _)]; rfl
theorem hn_f2 (t : Hn) : ((hnArr t).toList.drop 33).take 1 = [Value.int .i64 t.2.2] := by
  show ((hnL t).drop 33).take 1 = _
  unfold hnL
  rw [show 33 = 32 + 1 from rfl, ← List.drop_drop, List.drop_left' (idA_len _)]; rfl
theorem hnArr_id (t : Hn) : (hnArr t).extract 0 (0 + 32) = idArr t.1 := ext_lt9 _ _ _ _ (hn_f0 t)
theorem hnArr_no (t : Hn) : (hnArr t)[32]? = some (.int .i64 t.2.1) := by
  unfold hnArr hnL
  rw [List.getElem?_toArray, List.getElem?_append_right (by rw [idA_len]; exact Nat.le_refl _), idA_len]; rfl
theorem hnArr_until (t : Hn) : (hnArr t)[33]? = some (.int .i64 t.2.2) := by
  unfold hnArr hnL
  rw [List.getElem?_toArray, List.getElem?_append_right (by rw [idA_len]; omega), idA_len]; rfl
theorem hnArr_inj {x y : Hn} (h : (hnArr x).toList = (hnArr y).toList) : x = y := by
  have h0 := hn_f0 x; rw [h, hn_f0] at h0
  have h1 := hn_f1 x; rw [h, hn_f1] at h1
  have h2 := hn_f2 x; rw [h, hn_f2] at h2
  have g1 := List.head_eq_of_cons_eq h1
  have g2 := List.head_eq_of_cons_eq h2
  injection g1 with _ g1
  injection g2 with _ g2
  exact Prod.ext (idArr_inj (Array.toList_inj.1 h0)).symm (Prod.ext g1.symm g2.symm)
theorem hnEq (x y : Hn) : decide (x = y) = true ↔ (hnArr x).toList = (hnArr y).toList := by
  rw [decide_eq_true_eq]; exact ⟨fun h => by rw [h], hnArr_inj⟩
def hnZ : List (List Value) := [(idArr 0#256).toList, [.int .i64 0], [.int .i64 0]]
theorem hn_zero : hnArr zHn = hnZ.flatten.toArray := by unfold hnArr hnL zHn hnZ; simp
def hnCells (l : List Hn) : List Value := l.flatMap hnL
theorem hnCells_len (l : List Hn) : (hnCells l).length = l.length * 34 := cells_len _ 34 hnL_len l
theorem hnCells_app (l r : List Hn) : hnCells (l ++ r) = hnCells l ++ hnCells r := List.flatMap_append
theorem hnCells_one (t : Hn) : hnCells [t] = (hnArr t).toList := by simp [hnCells, hnArr]
theorem hnCells_ones (l : List Hn) : ∀ u ∈ hnCells l, u.oneCell' = true := fun u hu => by
  obtain ⟨x, _, hx⟩ := List.mem_flatMap.1 hu
  exact hnL_ones x u hx
theorem hn_sz (m : Hn) : ∀ v ∈ ([.agg (hnArr m)] : List Value), v.cells.size = 34 := fun v hv => by
  rw [List.mem_singleton] at hv; subst hv; exact hnArr_size m
theorem one_hn (m : Hn) : ([Value.agg (hnArr m)].flatMap fun v => v.cells.toList) = (hnArr m).toList := by simp [Value.cells]
theorem hn_snoc (l : List Hn) (x : Hn) : hnCells l ++ (hnArr x).toList = hnCells (l ++ [x]) := by rw [hnCells_app, hnCells_one]
theorem hnD {l : List Hn} {j : Nat} (hj : j < l.length) : l[j] = l.getD j zHn := by
  rw [List.getD_eq_getElem?_getD, List.getElem?_eq_getElem hj]; rfl
theorem hn_el (l : List Hn) (j : Nat) (hj : j < l.length) : (((hnCells l).drop (j * 34)).take 34).toArray = hnArr (l.getD j zHn) := by
  unfold hnCells
  rw [cells_el _ 34 hnL_len l j hj, hnD hj]; rfl
theorem hn_mem {l : List Hn} {j : Nat} (hj : j < l.length) : l.getD j zHn ∈ l := by rw [← hnD hj]; exact List.getElem_mem hj
theorem hn_at {l : List Hn} {x : Hn} (h : x ∈ l) : ∃ j, j < l.length ∧ l.getD j zHn = x := by
  obtain ⟨j, hj, rfl⟩ := List.mem_iff_getElem.1 h
  exact ⟨j, hj, (hnD hj).symm⟩
theorem hn_take {w : World} {v : Value} {l : List Hn} (h : RdZ w v 34 l.length (hnCells l)) (k : Nat) (hk : k ≤ l.length) : RdZ w (cutV v k) 34 (l.take k).length (hnCells (l.take k)) := by
  have := h.cut k hk
  unfold hnCells at this
  rw [cells_take _ 34 hnL_len] at this
  rw [List.length_take, Nat.min_eq_left hk]
  exact this
/-! texts -/
def txC (l : List ByteArray) : List Value := l.map Value.string
theorem txC_app (l r : List ByteArray) : txC (l ++ r) = txC l ++ txC r := List.map_append
theorem txC_ones (l : List ByteArray) : ∀ u ∈ txC l, u.oneCell' = true := fun u hu => by
  obtain ⟨x, _, rfl⟩ := List.mem_map.1 hu
  rfl
theorem st_sz (m : ByteArray) : ∀ v ∈ ([.string m] : List Value), v.cells.size = 1 := fun v hv => by
  rw [List.mem_singleton] at hv; subst hv; rfl
theorem stD {l : List ByteArray} {j : Nat} (hj : j < l.length) : l[j] = l.getD j ByteArray.empty := by
  rw [List.getD_eq_getElem?_getD, List.getElem?_eq_getElem hj]; rfl
theorem txC_at {l : List ByteArray} {j : Nat} (hj : j < l.length) : (txC l)[j]? = some (.string (l.getD j ByteArray.empty)) := by
  unfold txC
  rw [List.getElem?_map, List.getElem?_eq_getElem hj, stD hj]; rfl
theorem st_mem {l : List ByteArray} {j : Nat} (hj : j < l.length) : l.getD j ByteArray.empty ∈ l := by rw [← stD hj]; exact List.getElem_mem hj
theorem st_take {w : World} {v : Value} {l : List ByteArray} (h : RdZ w v 1 l.length (txC l)) (k : Nat) (hk : k ≤ l.length) : RdZ w (cutV v k) 1 (l.take k).length (txC (l.take k)) := by
  have := h.cut k hk
  rw [Nat.mul_one] at this
  unfold txC at this ⊢
  rw [List.length_take, Nat.min_eq_left hk, List.map_take]
  exact this
/-! the host as cells -/
def hoL (n g : Int) (vw vh vi : Value) : List Value := [.int .i64 n, .int .i64 g, vw, vh, vi]
def hoArr (n g : Int) (vw vh vi : Value) : Array Value := (hoL n g vw vh vi).toArray
theorem hoArr_size (n g : Int) (vw vh vi : Value) : (hoArr n g vw vh vi).size = 5 := rfl
theorem hoArr_ones {vw vh vi : Value} (n g : Int) (h1 : vw.oneCell' = true) (h2 : vh.oneCell' = true) (h3 : vi.oneCell' = true) : ∀ u ∈ (hoArr n g vw vh vi).toList, u.oneCell' = true := fun u hu => by
  have hu : u ∈ hoL n g vw vh vi := hu
  unfold hoL at hu
  simp only [List.mem_cons, List.not_mem_nil, or_false] at hu
  rcases hu with rfl | rfl | rfl | rfl | rfl
  · rfl
  · rfl
  · exact h1
  · exact h2
  · exact h3
section
variable (n g : Int) (vw vh vi x : Value)
theorem ho_n : (hoArr n g vw vh vi)[0]? = some (.int .i64 n) := rfl
theorem ho_g : (hoArr n g vw vh vi)[1]? = some (.int .i64 g) := rfl
theorem ho_w : (hoArr n g vw vh vi)[2]? = some vw := rfl
theorem ho_h : (hoArr n g vw vh vi)[3]? = some vh := rfl
theorem ho_i : (hoArr n g vw vh vi)[4]? = some vi := rfl
end
def hoZ : List (List Value) := [[.int .i64 0], [.int .i64 0], [.slice none 0 0], [.slice none 0 0], [.slice none 0 0]]
def RdH (w : World) (vw vh vi : Value) (h : Ho) : Prop := RdZ w vw 33 h.ws.length (wnCells h.ws) ∧ RdZ w vh 34 h.hs.length (hnCells h.hs) ∧ RdZ w vi 1 h.bx.length (txC h.bx)
theorem RdH.keep {w w' : World} {vw vh vi : Value} {h : Ho} (H : RdH w vw vh vi h) (e : Ext w w') : RdH w' vw vh vi h := ⟨H.1.keep e, H.2.1.keep e, H.2.2.keep e⟩
theorem rdH_nil (w : World) (n g : Int) : RdH w nilV nilV nilV ⟨n, g, [], [], []⟩ := ⟨⟨rfl, .inl ⟨rfl, rfl⟩⟩, ⟨rfl, .inl ⟨rfl, rfl⟩⟩, ⟨rfl, .inl ⟨rfl, rfl⟩⟩⟩
/-! ### where one is: the first place of a key -/
def kyI (l : List Id) (x : Id) : Int := if l.findIdx (fun y => decide (y = x)) < l.length then ((l.findIdx (fun y => decide (y = x)) : Nat) : Int) else -1
theorem idD {l : List Id} {j : Nat} (hj : j < l.length) : l[j] = l.getD j 0#256 := by
  rw [List.getD_eq_getElem?_getD, List.getElem?_eq_getElem hj]; rfl
theorem kyI_at {l : List Id} {x : Id} {k : Nat} (hk : k < l.length) (h : l.getD k 0#256 = x) (hb : ∀ j, j < k → l.getD j 0#256 ≠ x) : kyI l x = (k : Int) := by
  have e : l.findIdx (fun y => decide (y = x)) = k := by
    rw [List.findIdx_eq hk]
    refine ⟨by rw [idD hk, h]; simp, fun j hj => ?_⟩
    rw [idD (by omega)]
    exact decide_eq_false (hb j hj)
  unfold kyI
  rw [e, if_pos hk]
theorem kyI_no {l : List Id} {x : Id} (h : ∀ j, j < l.length → l.getD j 0#256 ≠ x) : kyI l x = -1 := by
  have e : l.findIdx (fun y => decide (y = x)) = l.length := by
    rw [List.findIdx_eq_length]
    intro y hy
    obtain ⟨j, hj, rfl⟩ := List.mem_iff_getElem.1 hy
    rw [idD hj]
    simpa using h j hj
  unfold kyI
  rw [e, if_neg (Nat.lt_irrefl _)]
theorem kyI_cases (l : List Id) (x : Id) : (kyI l x = -1 ∧ ∀ y ∈ l, y ≠ x) ∨ ∃ k, k < l.length ∧ kyI l x = (k : Int) ∧ l.getD k 0#256 = x ∧ ∀ j, j < k → l.getD j 0#256 ≠ x := by
  by_cases h : l.findIdx (fun y => decide (y = x)) < l.length
  · refine .inr ⟨_, h, by unfold kyI; rw [if_pos h], ?_, fun j hj => ?_⟩
    · rw [← idD h]
      have := List.findIdx_getElem (w := h)
      simpa using this
    · rw [← idD (by omega)]
      have := List.not_of_lt_findIdx hj
      simpa using this
  · refine .inl ⟨by unfold kyI; rw [if_neg h], fun y hy => ?_⟩
    have e : l.findIdx (fun y => decide (y = x)) = l.length := by have := List.findIdx_le_length (p := fun y => decide (y = x)) (xs := l); omega
    rw [List.findIdx_eq_length] at e
    simpa using e y hy
theorem kyI_neg {l : List Id} {x : Id} : kyI l x < 0 ↔ ∀ y ∈ l, y ≠ x := by
  rcases kyI_cases l x with ⟨h, g⟩ | ⟨k, hk, h, h1, _⟩
  · rw [h]; exact ⟨fun _ => g, fun _ => by decide⟩
  · rw [h]
    refine ⟨fun h => by omega, fun g => absurd h1 (g _ ?_)⟩
    rw [← idD hk]; exact List.getElem_mem hk
/-- each stands where it is first: no two are the same -/
theorem kyI_nodup {l : List Id} : (∀ j, j < l.length → kyI l (l.getD j 0#256) = (j : Int)) ↔ l.Nodup := by
  unfold List.Nodup
  rw [List.pairwise_iff_getElem]
  constructor
  · intro h a b ha hb hab e
    have h1 := h a ha
    have h2 := h b hb
    rw [← idD ha] at h1
    rw [← idD hb] at h2
    rw [e, h2] at h1
    omega
  · intro h j hj
    refine kyI_at hj rfl fun i hi e => ?_
    rw [← idD (by omega), ← idD hj] at e
    exact h i j (by omega) hj hi e
def wk (l : List Wn) : List Id := l.map (·.1)
def hk (l : List Hn) : List Id := l.map (·.1)
theorem wk_len (l : List Wn) : (wk l).length = l.length := List.length_map ..
theorem hk_len (l : List Hn) : (hk l).length = l.length := List.length_map ..
theorem wk_at (l : List Wn) (j : Nat) : (wk l).getD j 0#256 = (l.getD j zWn).1 := by
  unfold wk
  rw [List.getD_eq_getElem?_getD, List.getD_eq_getElem?_getD, List.getElem?_map]
  cases l[j]? <;> rfl
theorem hk_at (l : List Hn) (j : Nat) : (hk l).getD j 0#256 = (l.getD j zHn).1 := by
  unfold hk
  rw [List.getD_eq_getElem?_getD, List.getD_eq_getElem?_getD, List.getElem?_map]
  cases l[j]? <;> rfl
/-! ### which may be -/
def inb (n a b : Int) : Bool := decide (a ≤ n) && decide (n ≤ b)
theorem inb_iff {n a b : Int} : inb n a b = true ↔ a ≤ n ∧ n ≤ b := by unfold inb; rw [Bool.and_eq_true, decide_eq_true_eq, decide_eq_true_eq]
def okW (l : List Wn) (j : Nat) : Bool := inb (l.getD j zWn).2 1 1048576 && decide (kyI (wk l) (l.getD j zWn).1 = (j : Int))
def okHn (l : List Hn) (j : Nat) : Bool := inb (l.getD j zHn).2.1 0 15 && (inb (l.getD j zHn).2.2 0 1099511627776 && decide (kyI (hk l) (l.getD j zHn).1 = (j : Int)))
def okTx (l : List ByteArray) (j : Nat) : Bool := decide ((l.getD j ByteArray.empty).size ≤ 64)
def okB (h : Ho) : Bool := inb h.no 0 15 && (inb h.gt 0 15 && (decide (h.ws.length ≤ 8) && (decide (h.hs.length ≤ 8) && decide (h.bx.length ≤ 32))))
def rightH (h : Ho) : Bool := (List.range h.ws.length).all (okW h.ws) && ((List.range h.hs.length).all (okHn h.hs) && ((List.range h.bx.length).all (okTx h.bx) && okB h))
theorem rh_w {h : Ho} {k : Nat} (hk : k < h.ws.length) (e : okW h.ws k = false) : rightH h = false := by
  unfold rightH
  rw [show (List.range h.ws.length).all (okW h.ws) = false from by
    rw [List.all_eq_false]; exact ⟨k, List.mem_range.2 hk, by rw [e]; decide⟩]; rfl
theorem rh_n {h : Ho} {k : Nat} (hk : k < h.hs.length) (e : okHn h.hs k = false) : rightH h = false := by
  unfold rightH
  rw [show (List.range h.hs.length).all (okHn h.hs) = false from by
    rw [List.all_eq_false]; exact ⟨k, List.mem_range.2 hk, by rw [e]; decide⟩, Bool.false_and, Bool.and_false]
theorem rh_s {h : Ho} {k : Nat} (hk : k < h.bx.length) (e : okTx h.bx k = false) : rightH h = false := by
  unfold rightH
  rw [show (List.range h.bx.length).all (okTx h.bx) = false from by
    rw [List.all_eq_false]; exact ⟨k, List.mem_range.2 hk, by rw [e]; decide⟩, Bool.false_and, Bool.and_false, Bool.and_false]
theorem all_rng {p : Nat → Bool} {n : Nat} (h : ∀ j, j < n → p j = true) : (List.range n).all p = true := List.all_eq_true.2 fun j hj => h j (List.mem_range.1 hj)
theorem rng_all {p : Nat → Bool} {n : Nat} (h : (List.range n).all p = true) {j : Nat} (hj : j < n) : p j = true := List.all_eq_true.1 h j (List.mem_range.2 hj)
theorem rh_end {h : Ho} (h1 : ∀ j, j < h.ws.length → okW h.ws j = true) (h2 : ∀ j, j < h.hs.length → okHn h.hs j = true) (h3 : ∀ j, j < h.bx.length → okTx h.bx j = true) : rightH h = okB h := by
  unfold rightH
  rw [all_rng h1, all_rng h2, all_rng h3]; rfl
structure RH (h : Ho) : Prop where
  ws : ∀ x ∈ h.ws, 1 ≤ x.2 ∧ x.2 ≤ 1048576
  wn : (wk h.ws).Nodup
  hs : ∀ x ∈ h.hs, (0 ≤ x.2.1 ∧ x.2.1 ≤ 15) ∧ 0 ≤ x.2.2 ∧ x.2.2 ≤ 1099511627776
  hn : (hk h.hs).Nodup
  bx : ∀ s ∈ h.bx, s.size ≤ 64
  no : 0 ≤ h.no ∧ h.no ≤ 15
  gt : 0 ≤ h.gt ∧ h.gt ≤ 15
  wl : h.ws.length ≤ 8
  hl : h.hs.length ≤ 8
  bl : h.bx.length ≤ 32
theorem okW_iff {l : List Wn} {j : Nat} : okW l j = true ↔ (1 ≤ (l.getD j zWn).2 ∧ (l.getD j zWn).2 ≤ 1048576) ∧ kyI (wk l) (l.getD j zWn).1 = (j : Int) := by unfold okW; rw [Bool.and_eq_true, inb_iff, decide_eq_true_eq]
theorem okHn_iff {l : List Hn} {j : Nat} : okHn l j = true ↔ (0 ≤ (l.getD j zHn).2.1 ∧ (l.getD j zHn).2.1 ≤ 15) ∧ (0 ≤ (l.getD j zHn).2.2 ∧ (l.getD j zHn).2.2 ≤ 1099511627776) ∧ kyI (hk l) (l.getD j zHn).1 = (j : Int) := by unfold okHn; rw [Bool.and_eq_true, Bool.and_eq_true, inb_iff, inb_iff, decide_eq_true_eq]
theorem okB_iff {h : Ho} : okB h = true ↔ (0 ≤ h.no ∧ h.no ≤ 15) ∧ (0 ≤ h.gt ∧ h.gt ≤ 15) ∧ h.ws.length ≤ 8 ∧ h.hs.length ≤ 8 ∧ h.bx.length ≤ 32 := by
  unfold okB
  rw [Bool.and_eq_true, Bool.and_eq_true, Bool.and_eq_true, Bool.and_eq_true, inb_iff, inb_iff, decide_eq_true_eq, decide_eq_true_eq, decide_eq_true_eq]
theorem rh_iff {h : Ho} : rightH h = true ↔ RH h := by
  unfold rightH
  rw [Bool.and_eq_true, Bool.and_eq_true, Bool.and_eq_true, okB_iff]
  constructor
  · rintro ⟨h1, h2, h3, h4, h5, h6, h7, h8⟩
    refine ⟨fun x hx => ?_, kyI_nodup.1 fun j hj => ?_, fun x hx => ?_, kyI_nodup.1 fun j hj => ?_, fun x hx => ?_, h4, h5, h6, h7, h8⟩
    · obtain ⟨j, hj, rfl⟩ := wn_at hx
      exact (okW_iff.1 (rng_all h1 hj)).1
    · rw [wk_len] at hj; rw [wk_at]
      exact (okW_iff.1 (rng_all h1 hj)).2
    · obtain ⟨j, hj, rfl⟩ := hn_at hx
      have := okHn_iff.1 (rng_all h2 hj)
      exact ⟨this.1, this.2.1⟩
    · rw [hk_len] at hj; rw [hk_at]
      exact (okHn_iff.1 (rng_all h2 hj)).2.2
    · obtain ⟨j, hj, rfl⟩ := List.mem_iff_getElem.1 hx
      rw [stD hj]
      exact of_decide_eq_true (rng_all h3 hj)
  · intro R
    refine ⟨all_rng fun j hj => okW_iff.2 ⟨R.ws _ (wn_mem hj), ?_⟩, all_rng fun j hj => okHn_iff.2 ⟨(R.hs _ (hn_mem hj)).1, (R.hs _ (hn_mem hj)).2, ?_⟩, all_rng fun j hj => decide_eq_true (R.bx _ (st_mem hj)), R.no, R.gt, R.wl, R.hl, R.bl⟩
    · have := kyI_nodup.2 R.wn j (by rw [wk_len]; exact hj)
      rwa [wk_at] at this
    · have := kyI_nodup.2 R.hn j (by rw [hk_len]; exact hj)
      rwa [hk_at] at this
/-! ### the model -/
def wtI (h : Ho) (x : Id) : Int := kyI (wk h.ws) x
def htI (h : Ho) (x : Id) : Int := kyI (hk h.hs) x
def trnH (h : Ho) (x : Id) (now : Int) : Int := bif decide (0 ≤ htI h x) && decide (now < (h.hs.getD (htI h x).toNat zHn).2.2) then (h.hs.getD (htI h x).toNat zHn).2.1 else h.gt
def selfH (h : Ho) : Ent := (2, 0#256, h.no)
def insG (h : Ho) (x : Wn) : Mg := ⟨2, x.1, selfH h, [], x.2, ⟨#[]⟩, ⟨#[]⟩⟩
def askO (h : Ho) (now : Int) (x : Wn) : Se := (trnH h x.1 now, insG h x, zTg)
def askM9 (h : Ho) (now : Int) : List Se := h.ws.map (askO h now)
def datG (l : List Ent) (d : ByteArray) : Mg := ⟨1, 0#256, (0, 0#256, 0), l, 64, ⟨#[]⟩, d⟩
def sndT (h : Ho) (l : List Ent) (now : Int) : Int := bif decide ((l.getD 0 (0, 0#256, 0)).1 = 1) then trnH h (l.getD 0 (0, 0#256, 0)).2.1 now else h.gt
def sndM9 (h : Ho) (l : List Ent) (d : ByteArray) (now : Int) : Se := (sndT h l now, datG l d, zTg)
def fgtL (l : List Hn) (x : Id) : List Hn := l.filter fun y => !decide (y.1 = x)
def fgtH (h : Ho) (x : Id) : Ho := ⟨h.no, h.gt, h.ws, fgtL h.hs x, h.bx⟩
def untH (now : Int) : Int := if 1099511627776 < now + 1000 then 1099511627776 else now + 1000
def lstL (l : List Hn) : List Hn := if l.length < 8 then l else l.drop 1
def lrnL (l : List Hn) (x : Id) (n now : Int) : List Hn := lstL (fgtL l x) ++ [(x, n, untH now)]
structure Hq where
  h : Ho
  l : List Se
  e : Int
def badHq (e : Int) : Hq := ⟨zHo, [], e⟩
def lrnQ (h : Ho) (m : Mg) (now : Int) : Hq := bif decide (15 < m.n) then badHq 1 else ⟨⟨h.no, h.gt, h.ws, lrnL h.hs m.i m.n now, h.bx⟩, [], 0⟩
def echG (h : Ho) (m : Mg) : Mg := ⟨4, m.i, m.t, [], (h.ws.getD (wtI h m.i).toNat zWn).2, m.o, ⟨#[]⟩⟩
def dataQ (h : Ho) (m : Mg) : Hq := bif !decide (m.l.getD 0 (0, 0#256, 0) = selfH h) then badHq 1 else bif decide (h.bx.length = 32) then badHq 8 else ⟨⟨h.no, h.gt, h.ws, h.hs, h.bx ++ [m.d]⟩, [], 0⟩
def askQ (h : Ho) (fr : Int) (m : Mg) : Hq := bif !decide (m.t = selfH h) then badHq 1 else bif decide (wtI h m.i < 0) then badHq 6 else ⟨h, [(fr, echG h m, zTg)], 0⟩
def ackQ (h : Ho) (m : Mg) : Hq := bif decide (wtI h m.i < 0) then badHq 6 else ⟨h, [], 0⟩
def kndQ (h : Ho) (fr : Int) (m : Mg) (now : Int) : Hq :=
  bif decide (m.k = 1) then dataQ h m else bif decide (m.k = 3) then askQ h fr m else bif decide (m.k = 5) then ackQ h m else bif decide (m.k = 7) then ⟨fgtH h m.i, [], 0⟩ else bif decide (m.k = 8) then lrnQ h m now else badHq 1
def hnqB (h : Ho) (fr : Int) (m : Mg) (now : Int) : Bool := rightH h && (inb now 0 1099511627776 && (inb fr 0 31 && rightM m))
def hnqH (h : Ho) (fr : Int) (m : Mg) (now : Int) : Hq := bif hnqB h fr m now then kndQ h fr m now else badHq 1
end Go.Proofs.Ythjkhnhiciamaaa

namespace Go.Proofs.Ythjkhnhiciamaaa
open Go.RowKit
/-! ### what the walks want of hosts: builds -/
section
variable {P : Program} {ρ : Operand → Value} {d : Option Tmp} {ty : TypeId} {pos : String} {af : Array Edge} {g : Option (Nat × Bool)} {x y z u : Operand} {t : TypeId}
theorem ru_build_ho0 (S : Stt P t hoZ) : RunsTo P ⟨d, .build t #[], ty, pos, af, g⟩ ρ (.agg (hoArr 0 0 nilV nilV nilV)) :=
  ru_build_st (P := P) (ρ := ρ) (d := d) (ty := ty) (pos := pos) (af := af) (g := g) (parts := #[]) S [] (by simp) (fun i v hm => by simp at hm) (D := hoL 0 0 nilV nilV nilV) rfl
theorem ru_build_ho2 {n m : Int} (S : Stt P t hoZ) (hx : ρ x = .int .i64 n) (hy : ρ y = .int .i64 m) : RunsTo P ⟨d, .build t #[(0, x), (1, y)], ty, pos, af, g⟩ ρ (.agg (hoArr n m nilV nilV nilV)) := by
  have := ru_build_st (P := P) (ρ := ρ) (d := d) (ty := ty) (pos := pos) (af := af) (g := g) (parts := #[(0, x), (1, y)]) S [(0, .int .i64 n), (1, .int .i64 m)] (by simp [hx, hy]) (fun j u hm => by
    simp only [List.mem_cons, Prod.mk.injEq, List.not_mem_nil, or_false] at hm
    rcases hm with ⟨rfl, rfl⟩ | ⟨rfl, rfl⟩
    · exact ⟨_, rfl, rfl⟩
    · exact ⟨_, rfl, rfl⟩) (D := hoL n m nilV nilV nilV) rfl
  exact this
theorem ru_build_ho4 {n m : Int} {v w : Value} (S : Stt P t hoZ) (hv : v.cells.size = 1) (hc : v.cells.toList = [v]) (hv' : w.cells.size = 1) (hc' : w.cells.toList = [w]) (hx : ρ x = .int .i64 n) (hy : ρ y = .int .i64 m) (hz : ρ z = v) (hu : ρ u = w) : RunsTo P ⟨d, .build t #[(0, x), (1, y), (2, z), (3, u)], ty, pos, af, g⟩ ρ (.agg (hoArr n m v w nilV)) := by
  have := ru_build_st (P := P) (ρ := ρ) (d := d) (ty := ty) (pos := pos) (af := af) (g := g) (parts := #[(0, x), (1, y), (2, z), (3, u)]) S [(0, .int .i64 n), (1, .int .i64 m), (2, v), (3, w)] (by simp [hx, hy, hz, hu]) (fun j u hm => by
    simp only [List.mem_cons, Prod.mk.injEq, List.not_mem_nil, or_false] at hm
    rcases hm with ⟨rfl, rfl⟩ | ⟨rfl, rfl⟩ | ⟨rfl, rfl⟩ | ⟨rfl, rfl⟩
    · exact ⟨_, rfl, rfl⟩
    · exact ⟨_, rfl, rfl⟩
    · exact ⟨_, rfl, hv⟩
    · exact ⟨_, rfl, hv'⟩) (D := hoL n m v w nilV) (by
      show [Value.int .i64 n] ++ ([Value.int .i64 m] ++ (v.cells.toList ++ (w.cells.toList ++ ([nilV] ++ [])))) = _
      rw [hc, hc']; rfl)
  exact this
theorem ru_build_wn {i : Id} {n : Int} (S : Stt P t wnZ) (hx : ρ x = .agg (idArr i)) (hy : ρ y = .int .i64 n) : RunsTo P ⟨d, .build t #[(0, x), (1, y)], ty, pos, af, g⟩ ρ (.agg (wnArr (i, n))) := by
  have := ru_build_st (P := P) (ρ := ρ) (d := d) (ty := ty) (pos := pos) (af := af) (g := g) (parts := #[(0, x), (1, y)]) S [(0, .agg (idArr i)), (1, .int .i64 n)] (by simp [hx, hy]) (fun j u hm => by
    simp only [List.mem_cons, Prod.mk.injEq, List.not_mem_nil, or_false] at hm
    rcases hm with ⟨rfl, rfl⟩ | ⟨rfl, rfl⟩
    · exact ⟨_, rfl, by simp [Value.cells]⟩
    · exact ⟨_, rfl, rfl⟩) (D := wnL (i, n)) (by unfold wnL; rfl)
  exact this
theorem ru_build_hn {i : Id} {n m : Int} (S : Stt P t hnZ) (hx : ρ x = .agg (idArr i)) (hy : ρ y = .int .i64 n) (hz : ρ z = .int .i64 m) : RunsTo P ⟨d, .build t #[(0, x), (1, y), (2, z)], ty, pos, af, g⟩ ρ (.agg (hnArr (i, n, m))) := by
  have := ru_build_st (P := P) (ρ := ρ) (d := d) (ty := ty) (pos := pos) (af := af) (g := g) (parts := #[(0, x), (1, y), (2, z)]) S [(0, .agg (idArr i)), (1, .int .i64 n), (2, .int .i64 m)] (by simp [hx, hy, hz]) (fun j u hm => by
    simp only [List.mem_cons, Prod.mk.injEq, List.not_mem_nil, or_false] at hm
    rcases hm with ⟨rfl, rfl⟩ | ⟨rfl, rfl⟩ | ⟨rfl, rfl⟩
    · exact ⟨_, rfl, by simp [Value.cells]⟩
    · exact ⟨_, rfl, rfl⟩
    · exact ⟨_, rfl, rfl⟩) (D := hnL (i, n, m)) (by unfold hnL; rfl)
  exact this
theorem ru_build_se2 {n : Int} {m : Mg} {v : Value} (S : Stt P t seZ) (hx : ρ x = .int .i64 n) (hy : ρ y = .agg (mArr m v)) : RunsTo P ⟨d, .build t #[(0, x), (1, y)], ty, pos, af, g⟩ ρ (.agg (seArr n m v zTg)) := by
  have := ru_build_st (P := P) (ρ := ρ) (d := d) (ty := ty) (pos := pos) (af := af) (g := g) (parts := #[(0, x), (1, y)]) S [(0, .int .i64 n), (1, .agg (mArr m v))] (by simp [hx, hy]) (fun j u hm => by
    simp only [List.mem_cons, Prod.mk.injEq, List.not_mem_nil, or_false] at hm
    rcases hm with ⟨rfl, rfl⟩ | ⟨rfl, rfl⟩
    · exact ⟨_, rfl, rfl⟩
    · exact ⟨_, rfl, by show (mArr m v).size = _; rw [mArr_size]; rfl⟩) (D := seL n m v zTg) (by
      show [Value.int .i64 n] ++ ((mArr m v).toList ++ (tgZ.flatten ++ [])) = _
      rw [List.append_nil, ← tgL_zero]; rfl)
  exact this
theorem ru_build_se0 (S : Stt P t seZ) : RunsTo P ⟨d, .build t #[], ty, pos, af, g⟩ ρ (.agg (seArr 0 mZ nilV zTg)) := by
  have := ru_build_st (P := P) (ρ := ρ) (d := d) (ty := ty) (pos := pos) (af := af) (g := g) (parts := #[]) S [] (by simp) (fun j u hm => by simp at hm) (D := seL 0 mZ nilV zTg) (by
      show [Value.int .i64 0] ++ (mZs.flatten ++ (tgZ.flatten ++ [])) = _
      rw [List.append_nil, ← tgL_zero, ← mZ_flat]; rfl)
  exact this
end
/-! a host, what it sends, the error, as one -/
def thL (n g : Int) (a b c u : Value) (e : Int) : List Value := [.int .i64 n, .int .i64 g, a, b, c, u, .int .i64 e]
def thArr (n g : Int) (a b c u : Value) (e : Int) : Array Value := (thL n g a b c u e).toArray
theorem thArr_size (n g : Int) (a b c u : Value) (e : Int) : (thArr n g a b c u e).size = 7 := rfl
theorem thArr_ones {a b c u : Value} (n g e : Int) (h1 : a.oneCell' = true) (h2 : b.oneCell' = true) (h3 : c.oneCell' = true) (h4 : u.oneCell' = true) : ∀ z ∈ (thArr n g a b c u e).toList, z.oneCell' = true := fun z hz => by
  have hz : z ∈ thL n g a b c u e := hz
  unfold thL at hz
  simp only [List.mem_cons, List.not_mem_nil, or_false] at hz
  rcases hz with rfl | rfl | rfl | rfl | rfl | rfl | rfl
  · rfl
  · rfl
  · exact h1
  · exact h2
  · exact h3
  · exact h4
  · rfl
section
variable (n g : Int) (a b c u : Value) (e : Int)
theorem th_u : (thArr n g a b c u e)[5]? = some u := rfl
theorem th_e : (thArr n g a b c u e)[6]? = some (.int .i64 e) := rfl
theorem th_ho : (thArr n g a b c u e).extract 0 (0 + 5) = hoArr n g a b c := rfl
end
def thZ : List (List Value) := [hoZ.flatten, [.slice none 0 0], [.int .i64 0]]
section
variable {P : Program} {ρ : Operand → Value} {d : Option Tmp} {ty : TypeId} {pos : String} {af : Array Edge} {g : Option (Nat × Bool)} {x y z : Operand} {t : TypeId}
theorem ru_build_th2 {e : Int} (S : Stt P t thZ) (hx : ρ x = .int .i64 e) : RunsTo P ⟨d, .build t #[(2, x)], ty, pos, af, g⟩ ρ (.agg (thArr 0 0 nilV nilV nilV nilV e)) := by
  have := ru_build_st (P := P) (ρ := ρ) (d := d) (ty := ty) (pos := pos) (af := af) (g := g) (parts := #[(2, x)]) S [(2, .int .i64 e)] (by simp [hx]) (fun j u hm => by
    simp only [List.mem_cons, Prod.mk.injEq, List.not_mem_nil, or_false] at hm
    obtain ⟨rfl, rfl⟩ := hm
    exact ⟨_, rfl, rfl⟩) (D := thL 0 0 nilV nilV nilV nilV e) rfl
  exact this
theorem ru_build_th0 {n m : Int} {a b c : Value} (S : Stt P t thZ) (hx : ρ x = .agg (hoArr n m a b c)) : RunsTo P ⟨d, .build t #[(0, x)], ty, pos, af, g⟩ ρ (.agg (thArr n m a b c nilV 0)) := by
  have := ru_build_st (P := P) (ρ := ρ) (d := d) (ty := ty) (pos := pos) (af := af) (g := g) (parts := #[(0, x)]) S [(0, .agg (hoArr n m a b c))] (by simp [hx]) (fun j u hm => by
    simp only [List.mem_cons, Prod.mk.injEq, List.not_mem_nil, or_false] at hm
    obtain ⟨rfl, rfl⟩ := hm
    exact ⟨_, rfl, rfl⟩) (D := thL n m a b c nilV 0) rfl
  exact this
theorem ru_build_th01 {n m : Int} {a b c u : Value} (S : Stt P t thZ) (hv : u.cells.size = 1) (hc : u.cells.toList = [u]) (hx : ρ x = .agg (hoArr n m a b c)) (hy : ρ y = u) : RunsTo P ⟨d, .build t #[(0, x), (1, y)], ty, pos, af, g⟩ ρ (.agg (thArr n m a b c u 0)) := by
  have := ru_build_st (P := P) (ρ := ρ) (d := d) (ty := ty) (pos := pos) (af := af) (g := g) (parts := #[(0, x), (1, y)]) S [(0, .agg (hoArr n m a b c)), (1, u)] (by simp [hx, hy]) (fun j v hm => by
    simp only [List.mem_cons, Prod.mk.injEq, List.not_mem_nil, or_false] at hm
    rcases hm with ⟨rfl, rfl⟩ | ⟨rfl, rfl⟩
    · exact ⟨_, rfl, rfl⟩
    · exact ⟨_, rfl, hv⟩) (D := thL n m a b c u 0) (by
      show (hoArr n m a b c).toList ++ (u.cells.toList ++ ([Value.int .i64 0] ++ [])) = _
      rw [hc]; rfl)
  exact this
end
/-! ### the reference's loops -/
theorem nq_next {p : Nat → Prop} {k : Nat} (h : ∀ j, j < k → p j) (hk : p k) : ∀ j, j < k + 1 → p j := fun j hj => by
  rcases Nat.lt_or_ge j k with g | g
  · exact h j g
  · obtain rfl : j = k := by omega
    exact hk
theorem wt_hit {h : Ho} {x : Id} {k : Nat} (hk : k < h.ws.length) (hb : ∀ j, j < k → (h.ws.getD j zWn).1 ≠ x) (e : (h.ws.getD k zWn).1 = x) : wtI h x = (k : Int) :=
  kyI_at (by rw [wk_len]; exact hk) (by rw [wk_at]; exact e) (fun j hj => by rw [wk_at]; exact hb j hj)
theorem wt_out {h : Ho} {x : Id} (hb : ∀ j, j < h.ws.length → (h.ws.getD j zWn).1 ≠ x) : wtI h x = -1 :=
  kyI_no fun j hj => by rw [wk_at]; exact hb j (by rwa [wk_len] at hj)
theorem ht_hit {h : Ho} {x : Id} {k : Nat} (hk9 : k < h.hs.length) (hb : ∀ j, j < k → (h.hs.getD j zHn).1 ≠ x) (e : (h.hs.getD k zHn).1 = x) : htI h x = (k : Int) :=
  kyI_at (by rw [hk_len]; exact hk9) (by rw [hk_at]; exact e) (fun j hj => by rw [hk_at]; exact hb j hj)
theorem ht_out {h : Ho} {x : Id} (hb : ∀ j, j < h.hs.length → (h.hs.getD j zHn).1 ≠ x) : htI h x = -1 :=
  kyI_no fun j hj => by rw [hk_at]; exact hb j (by rwa [hk_len] at hj)
/-- a place that is there, or none -/
theorem wt_cases (h : Ho) (x : Id) : (wtI h x = -1 ∧ ∀ y ∈ h.ws, y.1 ≠ x) ∨ ∃ k, k < h.ws.length ∧ wtI h x = (k : Int) ∧ (h.ws.getD k zWn).1 = x ∧ ∀ j, j < k → (h.ws.getD j zWn).1 ≠ x := by
  rcases kyI_cases (wk h.ws) x with ⟨h1, h2⟩ | ⟨k, h1, h2, h3, h4⟩
  · exact .inl ⟨h1, fun y hy => h2 _ (List.mem_map_of_mem hy)⟩
  · rw [wk_len] at h1; rw [wk_at] at h3
    exact .inr ⟨k, h1, h2, h3, fun j hj => by have := h4 j hj; rwa [wk_at] at this⟩
theorem ht_cases (h : Ho) (x : Id) : (htI h x = -1 ∧ ∀ y ∈ h.hs, y.1 ≠ x) ∨ ∃ k, k < h.hs.length ∧ htI h x = (k : Int) ∧ (h.hs.getD k zHn).1 = x ∧ ∀ j, j < k → (h.hs.getD j zHn).1 ≠ x := by
  rcases kyI_cases (hk h.hs) x with ⟨h1, h2⟩ | ⟨k, h1, h2, h3, h4⟩
  · exact .inl ⟨h1, fun y hy => h2 _ (List.mem_map_of_mem hy)⟩
  · rw [hk_len] at h1; rw [hk_at] at h3
    exact .inr ⟨k, h1, h2, h3, fun j hj => by have := h4 j hj; rwa [hk_at] at this⟩
theorem ht_get {h : Ho} {x : Id} (e : decide (0 ≤ htI h x) = true) : htI h x = ((htI h x).toNat : Int) ∧ (htI h x).toNat < h.hs.length := by
  have e := of_decide_eq_true e
  rcases ht_cases h x with ⟨h1, _⟩ | ⟨k, h1, h2, _⟩
  · omega
  · rw [h2]; exact ⟨rfl, h1⟩
theorem wt_get {h : Ho} {x : Id} (e : ¬ wtI h x < 0) : wtI h x = ((wtI h x).toNat : Int) ∧ (wtI h x).toNat < h.ws.length := by
  rcases wt_cases h x with ⟨h1, _⟩ | ⟨k, h1, h2, _⟩
  · omega
  · rw [h2]; exact ⟨rfl, h1⟩
theorem okW_0 {l : List Wn} {k : Nat} (h : inb (l.getD k zWn).2 1 1048576 = false) : okW l k = false := by unfold okW; rw [h]; rfl
theorem okW_1 {l : List Wn} {k : Nat} (h : inb (l.getD k zWn).2 1 1048576 = true) {b : Bool} (h2 : decide (kyI (wk l) (l.getD k zWn).1 = (k : Int)) = b) : okW l k = b := by unfold okW; rw [h, h2]; rfl
theorem okHn_0 {l : List Hn} {k : Nat} (h : inb (l.getD k zHn).2.1 0 15 = false) : okHn l k = false := by unfold okHn; rw [h]; rfl
theorem okHn_1 {l : List Hn} {k : Nat} (h : inb (l.getD k zHn).2.1 0 15 = true) (h1 : inb (l.getD k zHn).2.2 0 1099511627776 = false) : okHn l k = false := by unfold okHn; rw [h, h1]; rfl
theorem okHn_2 {l : List Hn} {k : Nat} (h : inb (l.getD k zHn).2.1 0 15 = true) (h1 : inb (l.getD k zHn).2.2 0 1099511627776 = true) {b : Bool} (h2 : decide (kyI (hk l) (l.getD k zHn).1 = (k : Int)) = b) : okHn l k = b := by unfold okHn; rw [h, h1, h2]; rfl
/-! two are the same -/
theorem ho_ne {α : Type} [DecidableEq α] {a b : Ho} (f : Ho → α) (h : f a ≠ f b) : decide (a = b) = false := decide_eq_false fun e => h (by rw [e])
theorem ho_yes {a b : Ho} (h0 : a.no = b.no) (h1 : a.gt = b.gt) (l1 : a.ws.length = b.ws.length) (l2 : a.hs.length = b.hs.length) (l3 : a.bx.length = b.bx.length)
    (e1 : ∀ j, j < a.ws.length → a.ws.getD j zWn = b.ws.getD j zWn) (e2 : ∀ j, j < a.hs.length → a.hs.getD j zHn = b.hs.getD j zHn) (e3 : ∀ j, j < a.bx.length → a.bx.getD j ByteArray.empty = b.bx.getD j ByteArray.empty) : decide (a = b) = true := by
  have x1 : a.ws = b.ws := List.ext_getElem l1 fun j g1 g2 => by rw [wnD g1, wnD g2]; exact e1 j g1
  have x2 : a.hs = b.hs := List.ext_getElem l2 fun j g1 g2 => by rw [hnD g1, hnD g2]; exact e2 j g1
  have x3 : a.bx = b.bx := List.ext_getElem l3 fun j g1 g2 => by rw [stD g1, stD g2]; exact e3 j g1
  cases a; cases b
  simp only at h0 h1 x1 x2 x3
  subst h0; subst h1; subst x1; subst x2; subst x3
  exact decide_eq_true rfl
theorem trn_y {h : Ho} {x : Id} {now : Int} (h0 : decide (0 ≤ htI h x) = true) (h1 : decide (now < (h.hs.getD (htI h x).toNat zHn).2.2) = true) : trnH h x now = (h.hs.getD (htI h x).toNat zHn).2.1 := by unfold trnH; rw [h0, h1]; rfl
theorem trn_n0 {h : Ho} {x : Id} {now : Int} (h0 : decide (0 ≤ htI h x) = false) : trnH h x now = h.gt := by unfold trnH; rw [h0]; rfl
theorem trn_n1 {h : Ho} {x : Id} {now : Int} (h1 : decide (now < (h.hs.getD (htI h x).toNat zHn).2.2) = false) : trnH h x now = h.gt := by unfold trnH; rw [h1, Bool.and_false]; rfl
/-! prefixes -/
theorem take_wn {l : List Wn} {d : Nat} (hd : d < l.length) : l.take (d + 1) = l.take d ++ [l.getD d zWn] := by rw [List.take_succ_eq_append_getElem hd, wnD hd]
theorem take_hn {l : List Hn} {d : Nat} (hd : d < l.length) : l.take (d + 1) = l.take d ++ [l.getD d zHn] := by rw [List.take_succ_eq_append_getElem hd, hnD hd]
theorem take_st {l : List ByteArray} {d : Nat} (hd : d < l.length) : l.take (d + 1) = l.take d ++ [l.getD d ByteArray.empty] := by rw [List.take_succ_eq_append_getElem hd, stD hd]
def fgtK (l : List Hn) (x : Id) (k : Nat) : List Hn := fgtL (l.take k) x
theorem fgtK_le (l : List Hn) (x : Id) (k : Nat) : (fgtK l x k).length ≤ k := Nat.le_trans (List.length_filter_le _ _) (by rw [List.length_take]; omega)
theorem fgtK_y {l : List Hn} {x : Id} {k : Nat} (hk : k < l.length) (h : decide ((l.getD k zHn).1 = x) = false) : fgtK l x (k + 1) = fgtK l x k ++ [l.getD k zHn] := by
  unfold fgtK fgtL
  rw [take_hn hk, List.filter_append, List.filter_cons, h]; rfl
theorem fgtK_n {l : List Hn} {x : Id} {k : Nat} (hk : k < l.length) (h : decide ((l.getD k zHn).1 = x) = true) : fgtK l x (k + 1) = fgtK l x k := by
  unfold fgtK fgtL
  rw [take_hn hk, List.filter_append, List.filter_cons, h, List.filter_nil]; simp
theorem fgtK_end {l : List Hn} {x : Id} {k : Nat} (hk : l.length ≤ k) : fgtK l x k = fgtL l x := by unfold fgtK; rw [List.take_of_length_le hk]
theorem fgt_le (l : List Hn) (x : Id) : (fgtL l x).length ≤ l.length := List.length_filter_le _ _
def lstK (l : List Hn) (k : Nat) : List Hn := if l.length < 8 then l.take k else (l.take k).drop 1
theorem lstK_le (l : List Hn) (k : Nat) : (lstK l k).length ≤ k := by
  unfold lstK
  split
  · rw [List.length_take]; omega
  · rw [List.length_drop, List.length_take]; omega
theorem lstK_y {l : List Hn} {k : Nat} (hk : k < l.length) (h : 0 < k ∨ l.length < 8) : lstK l (k + 1) = lstK l k ++ [l.getD k zHn] := by
  unfold lstK
  split
  · exact take_hn hk
  · rw [take_hn hk, List.drop_append_of_le_length (by rw [List.length_take]; omega)]
theorem lstK_n {l : List Hn} {k : Nat} (h : ¬ (0 < k ∨ l.length < 8)) : lstK l (k + 1) = lstK l k := by
  unfold lstK
  rw [if_neg (by omega), if_neg (by omega)]
  obtain rfl : k = 0 := by omega
  cases l <;> rfl
theorem lstK_end {l : List Hn} {k : Nat} (hk : l.length ≤ k) : lstK l k = lstL l := by
  unfold lstK lstL
  rw [List.take_of_length_le hk]
theorem lst_le (l : List Hn) : (lstL l).length ≤ l.length := by unfold lstL; split <;> simp
/-! ### what is handed out -/
def TqP (w : World) (vw vh vi vs : Value) (h : Ho) (l : List Ent) (H : Hq) : Asrt := fun v w' => ∃ uw uh ui ul K ks, v = .agg (thArr H.h.no H.h.gt uw uh ui ul H.e) ∧ sends K = H.l ∧ St w [.grp ks fun w9 => RdH w9 vw vh vi h → RdE w9 vs l → RdH w9 uw uh ui H.h ∧ RdS w9 ul K] w'
theorem rdS_nil (w : World) : RdS w nilV [] := ⟨⟨rfl, .inl ⟨rfl, rfl⟩⟩, rwS_nil w⟩
section
variable {w w' : World} {vw vh vi vs : Value} {h : Ho} {l : List Ent} {H : Hq} {N : TypeId}
theorem tqp_grp {uw uh ui ul : Value} {K : List S2} {ks : List Nat} {h' : Ho} {e : Int} (hH : H = ⟨h', sends K, e⟩) (s : St w [.grp ks fun w9 => RdH w9 vw vh vi h → RdE w9 vs l → RdH w9 uw uh ui h' ∧ RdS w9 ul K] w') : TqP w vw vh vi vs h l H (.agg (thArr h'.no h'.gt uw uh ui ul e)) w' := by
  subst hH
  exact ⟨uw, uh, ui, ul, K, ks, rfl, rfl, s⟩
theorem tqp_bad {e : Int} (hH : H = badHq e) (s : St w [] w') : TqP w vw vh vi vs h l H (.agg (thArr 0 0 nilV nilV nilV nilV e)) w' :=
  tqp_grp (h' := zHo) (K := []) hH (s.grp0 (S := fun w9 => RdH w9 vw vh vi h → RdE w9 vs l → RdH w9 nilV nilV nilV zHo ∧ RdS w9 nilV []) fun w9 _ _ => ⟨rdH_nil w9 0 0, rdS_nil w9⟩)
theorem tqp_keep (hH : H = ⟨h, [], 0⟩) (s : St w [] w') : TqP w vw vh vi vs h l H (.agg (thArr h.no h.gt vw vh vi nilV 0)) w' :=
  tqp_grp (h' := h) (K := []) hH (s.grp0 (S := fun w9 => RdH w9 vw vh vi h → RdE w9 vs l → RdH w9 vw vh vi h ∧ RdS w9 nilV []) fun w9 a _ => ⟨a, rdS_nil w9⟩)
theorem tqp_box {u : Value} {L : List ByteArray} (hH : H = ⟨⟨h.no, h.gt, h.ws, h.hs, L⟩, [], 0⟩) (s : St w [.sl u N 1 L.length (txC L)] w') : TqP w vw vh vi vs h l H (.agg (thArr h.no h.gt vw vh u nilV 0)) w' := by
  obtain ⟨kn, s⟩ := ((s.grp0 (S := fun _ => True) (fun _ => trivial)).perm (List.Perm.swap ..)).grp1 (S' := fun w9 => RdH w9 vw vh vi h → RdE w9 vs l → RdH w9 vw vh u ⟨h.no, h.gt, h.ws, h.hs, L⟩ ∧ RdS w9 nilV []) (fun w9 h9 _ a _ => ⟨⟨a.1, a.2.1, h9⟩, rdS_nil w9⟩)
  exact tqp_grp (h' := ⟨h.no, h.gt, h.ws, h.hs, L⟩) (K := []) hH s
theorem tqp_hnt {u : Value} {L : List Hn} (hH : H = ⟨⟨h.no, h.gt, h.ws, L, h.bx⟩, [], 0⟩) (s : St w [.sl u N 34 L.length (hnCells L)] w') : TqP w vw vh vi vs h l H (.agg (thArr h.no h.gt vw u vi nilV 0)) w' := by
  obtain ⟨kn, s⟩ := ((s.grp0 (S := fun _ => True) (fun _ => trivial)).perm (List.Perm.swap ..)).grp1 (S' := fun w9 => RdH w9 vw vh vi h → RdE w9 vs l → RdH w9 vw u vi ⟨h.no, h.gt, h.ws, L, h.bx⟩ ∧ RdS w9 nilV []) (fun w9 h9 _ a _ => ⟨⟨a.1, h9, a.2.2⟩, rdS_nil w9⟩)
  exact tqp_grp (h' := ⟨h.no, h.gt, h.ws, L, h.bx⟩) (K := []) hH s
theorem tqp_snd {u : Value} {K : List S2} (hH : H = ⟨h, sends K, 0⟩) (hK : ∀ w9, RdE w9 vs l → RwS K w9) (s : St w [.sl u N 139 K.length (seCells K)] w') : TqP w vw vh vi vs h l H (.agg (thArr h.no h.gt vw vh vi u 0)) w' := by
  obtain ⟨kn, s⟩ := ((s.grp0 (S := fun _ => True) (fun _ => trivial)).perm (List.Perm.swap ..)).grp1 (S' := fun w9 => RdH w9 vw vh vi h → RdE w9 vs l → RdH w9 vw vh vi h ∧ RdS w9 u K) (fun w9 h9 _ a b => ⟨a, h9, hK w9 b⟩)
  exact tqp_grp (h' := h) hH s
end
/-! what is handled -/
section
variable {h : Ho} {fr : Int} {m : Mg} {now : Int}
theorem hq_bad (e : hnqB h fr m now = false) : hnqH h fr m now = badHq 1 := by unfold hnqH; rw [e]; rfl
theorem hq_ok (e : hnqB h fr m now = true) : hnqH h fr m now = kndQ h fr m now := by unfold hnqH; rw [e]; rfl
theorem hqB_0 (a : rightH h = false) : hnqB h fr m now = false := by unfold hnqB; rw [a]; rfl
theorem hqB_1 (a : inb now 0 1099511627776 = false) : hnqB h fr m now = false := by unfold hnqB; rw [a, Bool.false_and, Bool.and_false]
theorem hqB_2 (a : inb fr 0 31 = false) : hnqB h fr m now = false := by unfold hnqB; rw [a, Bool.false_and, Bool.and_false, Bool.and_false]
theorem hqB_3 (a : rightM m = false) : hnqB h fr m now = false := by unfold hnqB; rw [a, Bool.and_false, Bool.and_false, Bool.and_false]
theorem hqB_y (a : rightH h = true) (b : inb now 0 1099511627776 = true) (c : inb fr 0 31 = true) (d : rightM m = true) : hnqB h fr m now = true := by unfold hnqB; rw [a, b, c, d]; rfl
theorem kq_1 (e : decide (m.k = 1) = true) : kndQ h fr m now = dataQ h m := by unfold kndQ; rw [e]; rfl
theorem kq_3 (e1 : decide (m.k = 1) = false) (e : decide (m.k = 3) = true) : kndQ h fr m now = askQ h fr m := by unfold kndQ; rw [e1, e]; rfl
theorem kq_5 (e1 : decide (m.k = 1) = false) (e3 : decide (m.k = 3) = false) (e : decide (m.k = 5) = true) : kndQ h fr m now = ackQ h m := by unfold kndQ; rw [e1, e3, e]; rfl
theorem kq_7 (e1 : decide (m.k = 1) = false) (e3 : decide (m.k = 3) = false) (e5 : decide (m.k = 5) = false) (e : decide (m.k = 7) = true) : kndQ h fr m now = ⟨fgtH h m.i, [], 0⟩ := by unfold kndQ; rw [e1, e3, e5, e]; rfl
theorem kq_8 (e1 : decide (m.k = 1) = false) (e3 : decide (m.k = 3) = false) (e5 : decide (m.k = 5) = false) (e7 : decide (m.k = 7) = false) (e : decide (m.k = 8) = true) : kndQ h fr m now = lrnQ h m now := by unfold kndQ; rw [e1, e3, e5, e7, e]; rfl
theorem kq_9 (e1 : decide (m.k = 1) = false) (e3 : decide (m.k = 3) = false) (e5 : decide (m.k = 5) = false) (e7 : decide (m.k = 7) = false) (e : decide (m.k = 8) = false) : kndQ h fr m now = badHq 1 := by unfold kndQ; rw [e1, e3, e5, e7, e]; rfl
theorem dq_1 (e : decide (m.l.getD 0 (0, 0#256, 0) = selfH h) = false) : dataQ h m = badHq 1 := by unfold dataQ; rw [e]; rfl
theorem dq_2 (e : decide (m.l.getD 0 (0, 0#256, 0) = selfH h) = true) (e2 : decide (h.bx.length = 32) = true) : dataQ h m = badHq 8 := by unfold dataQ; rw [e, e2]; rfl
theorem dq_3 (e : decide (m.l.getD 0 (0, 0#256, 0) = selfH h) = true) (e2 : decide (h.bx.length = 32) = false) : dataQ h m = ⟨⟨h.no, h.gt, h.ws, h.hs, h.bx ++ [m.d]⟩, [], 0⟩ := by unfold dataQ; rw [e, e2]; rfl
theorem aq_1 (e : decide (m.t = selfH h) = false) : askQ h fr m = badHq 1 := by unfold askQ; rw [e]; rfl
theorem aq_2 (e : decide (m.t = selfH h) = true) (e2 : decide (wtI h m.i < 0) = true) : askQ h fr m = badHq 6 := by unfold askQ; rw [e, e2]; rfl
theorem aq_3 (e : decide (m.t = selfH h) = true) (e2 : decide (wtI h m.i < 0) = false) : askQ h fr m = ⟨h, [(fr, echG h m, zTg)], 0⟩ := by unfold askQ; rw [e, e2]; rfl
theorem kq_a (e2 : decide (wtI h m.i < 0) = true) : ackQ h m = badHq 6 := by unfold ackQ; rw [e2]; rfl
theorem kq_b (e2 : decide (wtI h m.i < 0) = false) : ackQ h m = ⟨h, [], 0⟩ := by unfold ackQ; rw [e2]; rfl
theorem lq_1 (e : decide (15 < m.n) = true) : lrnQ h m now = badHq 1 := by unfold lrnQ; rw [e]; rfl
theorem lq_2 (e : decide (15 < m.n) = false) : lrnQ h m now = ⟨⟨h.no, h.gt, h.ws, lrnL h.hs m.i m.n now, h.bx⟩, [], 0⟩ := by unfold lrnQ; rw [e]; rfl
end
end Go.Proofs.Ythjkhnhiciamaaa

namespace Go.Proofs.Ythjkhnhiciamaaa
open Go.RowKit
/-! cells of elements; what is asked, step by step -/
theorem wn_c32 (l : List Wn) (j : Nat) (hj : j < l.length) : (wnCells l)[j * 33 + 32]? = some (.int .i64 (l.getD j zWn).2) := by
  have h := congrArg (fun a : Array Value => a[32]?) (wn_el l j hj)
  simp only [wnArr_life, List.getElem?_toArray] at h
  rw [← h, List.getElem?_take_of_lt (by decide), List.getElem?_drop]
theorem hn_c32 (l : List Hn) (j : Nat) (hj : j < l.length) : (hnCells l)[j * 34 + 32]? = some (.int .i64 (l.getD j zHn).2.1) := by
  have h := congrArg (fun a : Array Value => a[32]?) (hn_el l j hj)
  simp only [hnArr_no, List.getElem?_toArray] at h
  rw [← h, List.getElem?_take_of_lt (by decide), List.getElem?_drop]
theorem hn_c33 (l : List Hn) (j : Nat) (hj : j < l.length) : (hnCells l)[j * 34 + 33]? = some (.int .i64 (l.getD j zHn).2.2) := by
  have h := congrArg (fun a : Array Value => a[33]?) (hn_el l j hj)
  simp only [hnArr_until, List.getElem?_toArray] at h
  rw [← h, List.getElem?_take_of_lt (by decide), List.getElem?_drop]
def akK (h : Ho) (now : Int) (k : Nat) : List S2 := (h.ws.take k).map fun x => (askO h now x, nilV)
theorem akK_len {h : Ho} {now : Int} {k : Nat} (hk : k ≤ h.ws.length) : (akK h now k).length = k := by unfold akK; rw [List.length_map, List.length_take]; omega
theorem akK_s {h : Ho} {now : Int} {k : Nat} (hk : k < h.ws.length) : akK h now (k + 1) = akK h now k ++ [(askO h now (h.ws.getD k zWn), nilV)] := by
  unfold akK
  rw [take_wn hk, List.map_append]; rfl
theorem akK_end {h : Ho} {now : Int} : sends (akK h now h.ws.length) = askM9 h now := by
  unfold akK sends askM9
  rw [List.take_length, List.map_map]; rfl
theorem akK_rd (h : Ho) (now : Int) (k : Nat) (w : World) : RwS (akK h now k) w := fun x hx => by
  obtain ⟨y, _, rfl⟩ := List.mem_map.1 hx
  exact re_nil w
theorem unt_1 {now : Int} (h : decide (1099511627776 < now + 1000) = true) : (1099511627776 : Int) = untH now := by unfold untH; rw [if_pos (of_decide_eq_true h)]
theorem unt_2 {now : Int} (h : decide (1099511627776 < now + 1000) = false) : now + 1000 = untH now := by unfold untH; rw [if_neg (of_decide_eq_false h)]
def AkR (w : World) (N : TypeId) (L : List Se) : Asrt := fun v w' => ∃ K, sends K = L ∧ (∀ w9, RwS K w9) ∧ Owns w' w.heap.size N 139 v K.length (seCells K)
end Go.Proofs.Ythjkhnhiciamaaa

namespace Go.Proofs.Ythjkhnhiciamaaa
open Go.RowKit
/-! ### package host's answers (contracts) -/
def newE (n g : Int) : Int := bif inb n 0 15 && inb g 0 15 then 0 else 1
def newH (n g : Int) : Ho := bif inb n 0 15 && inb g 0 15 then ⟨n, g, [], [], []⟩ else zHo
def wanE (h : Ho) (x : Id) (l : Int) : Int := bif rightH h && inb l 1 1048576 then (bif decide (0 ≤ wtI h x) then 7 else bif decide (h.ws.length = 8) then 8 else 0) else 1
def morH (h : Ho) (x : Id) (l : Int) : Ho := ⟨h.no, h.gt, h.ws ++ [(x, l)], h.hs, h.bx⟩
def wanH (h : Ho) (x : Id) (l : Int) : Ho := bif decide (wanE h x l = 0) then morH h x l else zHo
def unwE (h : Ho) (x : Id) : Int := bif rightH h then (bif decide (wtI h x < 0) then 6 else 0) else 1
def lesH (h : Ho) (x : Id) : Ho := ⟨h.no, h.gt, h.ws.take (wtI h x).toNat ++ h.ws.drop ((wtI h x).toNat + 1), h.hs, h.bx⟩
def unwH (h : Ho) (x : Id) : Ho := bif decide (unwE h x = 0) then lesH h x else zHo
def akE (h : Ho) (now : Int) : Int := bif rightH h && inb now 0 1099511627776 then 0 else 1
def akL (h : Ho) (now : Int) : List Se := bif rightH h && inb now 0 1099511627776 then askM9 h now else []
def sdE (h : Ho) (l : List Ent) (d : ByteArray) (now : Int) : Int := bif rightH h && (inb now 0 1099511627776 && rightE l) then (bif decide (d.size ≤ 64) then 0 else 2) else 1
def sdX (h : Ho) (l : List Ent) (d : ByteArray) (now : Int) : Se := bif decide (sdE h l d now = 0) then sndM9 h l d now else zSe
def HoP (w : World) (vw vh vi : Value) (h H : Ho) (E : Int) : Asrt := fun v w' => ∃ uw uh ui ks, v = .tuple #[.agg (hoArr H.no H.gt uw uh ui), .int .i64 E] ∧ St w [.grp ks fun w9 => RdH w9 vw vh vi h → RdH w9 uw uh ui H] w'
def AkP (w : World) (vw vh vi : Value) (h : Ho) (L : List Se) (E : Int) : Asrt := fun v w' => ∃ ul K ks, v = .tuple #[ul, .int .i64 E] ∧ sends K = L ∧ St w [.grp ks fun w9 => RdH w9 vw vh vi h → RdS w9 ul K] w'
def SdP (w : World) (vl : Value) (l : List Ent) (x : Se) (E : Int) : Asrt := fun v w' => ∃ us ks, v = .tuple #[.agg (seArr x.1 x.2.1 us x.2.2), .int .i64 E] ∧ St w [.grp ks fun w9 => RdE w9 vl l → RdE w9 us x.2.1.l] w'
def HqP (w : World) (vw vh vi vs : Value) (h : Ho) (l : List Ent) (H : Hq) : Asrt := fun v w' => ∃ uw uh ui ul K ks, v = .tuple #[.agg (hoArr H.h.no H.h.gt uw uh ui), ul, .int .i64 H.e] ∧ sends K = H.l ∧ St w [.grp ks fun w9 => RdH w9 vw vh vi h → RdE w9 vs l → RdH w9 uw uh ui H.h ∧ RdS w9 ul K] w'
/-! few -/
def cut70 (s : ByteArray) : ByteArray := s.extract 0 (min s.size 70)
def fbL (h : Ho) : List ByteArray := h.bx.take (min h.bx.length 34)
def fbK (l : List ByteArray) (k : Nat) : List ByteArray := (l.take k).map cut70
def fewHo (h : Ho) : Ho := ⟨h.no, h.gt, h.ws.take (min h.ws.length 10), h.hs.take (min h.hs.length 10), fbK (fbL h) (fbL h).length⟩
theorem fbK_s {l : List ByteArray} {k : Nat} (hk : k < l.length) : fbK l (k + 1) = fbK l k ++ [cut70 (l.getD k ByteArray.empty)] := by
  unfold fbK
  rw [take_st hk, List.map_append]; rfl
theorem fbK_len (l : List ByteArray) (k : Nat) : (fbK l k).length ≤ k := by unfold fbK; rw [List.length_map, List.length_take]; omega
theorem fbL_len (h : Ho) : (fbL h).length ≤ 34 := by unfold fbL; rw [List.length_take]; omega
def ho0 : Ho → List ByteArray := fun h => fbK (fbL h) (fbL h).length
theorem few_ws (h : Ho) : (fewHo h).ws.length ≤ 10 := by unfold fewHo; simp only [List.length_take]; omega
theorem few_hs (h : Ho) : (fewHo h).hs.length ≤ 10 := by unfold fewHo; simp only [List.length_take]; omega
theorem few_bx (h : Ho) : (fewHo h).bx.length ≤ 34 := Nat.le_trans (fbK_len _ _) (fbL_len h)
theorem few_b (h : Ho) : (fewHo h).ws.length ≤ 1000 ∧ (fewHo h).hs.length ≤ 1000 ∧ (fewHo h).bx.length ≤ 1000 := ⟨Nat.le_trans (few_ws h) (by decide), Nat.le_trans (few_hs h) (by decide), Nat.le_trans (few_bx h) (by decide)⟩
theorem few_rdW {w : World} {v : Value} {h : Ho} (H : RdZ w v 33 h.ws.length (wnCells h.ws)) : RdZ w (cutV v (min h.ws.length 10)) 33 (fewHo h).ws.length (wnCells (fewHo h).ws) := wn_take H _ (Nat.min_le_left _ _)
theorem few_rdN {w : World} {v : Value} {h : Ho} (H : RdZ w v 34 h.hs.length (hnCells h.hs)) : RdZ w (cutV v (min h.hs.length 10)) 34 (fewHo h).hs.length (hnCells (fewHo h).hs) := hn_take H _ (Nat.min_le_left _ _)
theorem few_rdB {w : World} {v : Value} {h : Ho} (H : RdZ w v 1 h.bx.length (txC h.bx)) : RdZ w (cutV v (min h.bx.length 34)) 1 (fbL h).length (txC (fbL h)) := st_take H _ (Nat.min_le_left _ _)
/-! lengths -/
def B9 (h : Ho) : Prop := h.ws.length ≤ 1000 ∧ h.hs.length ≤ 1000 ∧ h.bx.length ≤ 1000
theorem b9_z : B9 zHo := ⟨Nat.zero_le _, Nat.zero_le _, Nat.zero_le _⟩
theorem b9_new (n g : Int) : B9 (newH n g) := by
  unfold newH
  cases (inb n 0 15 && inb g 0 15)
  · exact b9_z
  · exact ⟨Nat.zero_le _, Nat.zero_le _, Nat.zero_le _⟩
theorem b9_mor {h : Ho} (hb : h.ws.length ≤ 900 ∧ h.hs.length ≤ 1000 ∧ h.bx.length ≤ 1000) (x : Id) (l : Int) : B9 (morH h x l) := ⟨by show (h.ws ++ [_]).length ≤ _; rw [List.length_append]; simp; omega, hb.2⟩
theorem b9_wan {h : Ho} (hb : h.ws.length ≤ 900 ∧ h.hs.length ≤ 1000 ∧ h.bx.length ≤ 1000) (x : Id) (l : Int) : B9 (wanH h x l) := by
  unfold wanH
  cases decide (wanE h x l = 0)
  · exact b9_z
  · exact b9_mor hb x l
theorem les_len (h : Ho) (x : Id) : (lesH h x).ws.length ≤ h.ws.length := by
  show (h.ws.take _ ++ h.ws.drop _).length ≤ _
  rw [List.length_append, List.length_take, List.length_drop]; omega
theorem rdH_z (w : World) : RdH w nilV nilV nilV zHo := rdH_nil w 0 0
/-! one is alive -/
theorem al17_r (l : List Wn) (hl : l.length ≤ 8) (h1 : ∀ x ∈ l, 1 ≤ x.2 ∧ x.2 ≤ 1048576) (h2 : (wk l).Nodup) : rightH ⟨3, 1, l, [], []⟩ = true :=
  rh_iff.2 ⟨h1, h2, fun _ h => (by cases h), List.nodup_nil, fun _ h => (by cases h), ⟨(by show (0 : Int) ≤ 3; decide), (by show (3 : Int) ≤ 15; decide)⟩, ⟨(by show (0 : Int) ≤ 1; decide), (by show (1 : Int) ≤ 15; decide)⟩, hl, Nat.zero_le _, Nat.zero_le _⟩
theorem al17_n : newE 3 1 = 0 ∧ newH 3 1 = ⟨3, 1, [], [], []⟩ := ⟨by decide, rfl⟩
theorem al17_w (i : Id) : wanE ⟨3, 1, [], [], []⟩ i 5 = 0 ∧ wanH ⟨3, 1, [], [], []⟩ i 5 = ⟨3, 1, [(i, 5)], [], []⟩ := by
  have e : wanE ⟨3, 1, [], [], []⟩ i 5 = 0 := by
    unfold wanE
    rw [al17_r [] (Nat.zero_le _) (fun _ h => by cases h) List.nodup_nil, show wtI ⟨3, 1, [], [], []⟩ i = -1 from kyI_no fun j hj => absurd hj (Nat.not_lt_zero _)]
    rfl
  refine ⟨e, ?_⟩
  unfold wanH
  rw [e]; rfl
theorem al17_a (i : Id) : akE ⟨3, 1, [(i, 5)], [], []⟩ 0 = 0 ∧ akL ⟨3, 1, [(i, 5)], [], []⟩ 0 = [(1, insG ⟨3, 1, [(i, 5)], [], []⟩ (i, 5), zTg)] := by
  have r := al17_r [(i, 5)] (by show 1 ≤ 8; decide) (fun x h => by rw [List.mem_singleton.1 h]; exact ⟨(by show (1 : Int) ≤ 5; decide), (by show (5 : Int) ≤ 1048576; decide)⟩) (by simp [wk])
  unfold akE akL
  rw [r]
  refine ⟨rfl, ?_⟩
  show askM9 _ 0 = _
  unfold askM9
  show [askO _ 0 (i, 5)] = _
  have t : trnH ⟨3, 1, [(i, 5)], [], []⟩ i 0 = 1 := trn_n0 (decide_eq_false (by
    rw [show htI ⟨3, 1, [(i, 5)], [], []⟩ i = -1 from kyI_no fun j hj => absurd hj (Nat.not_lt_zero _)]; decide))
  unfold askO
  rw [t]
/-! wants -/
theorem nw_bad {n g : Int} (h : (inb n 0 15 && inb g 0 15) = false) : newE n g = 1 ∧ newH n g = zHo := by unfold newE newH; rw [h]; exact ⟨rfl, rfl⟩
theorem nw_ok {n g : Int} (h : (inb n 0 15 && inb g 0 15) = true) : newE n g = 0 ∧ newH n g = ⟨n, g, [], [], []⟩ := by unfold newE newH; rw [h]; exact ⟨rfl, rfl⟩
theorem wan_bad {h : Ho} {x : Id} {l : Int} (hr : rightH h = false) : wanE h x l = 1 ∧ wanH h x l = zHo := by
  have e : wanE h x l = 1 := by unfold wanE; rw [hr]; rfl
  refine ⟨e, ?_⟩
  unfold wanH; rw [e]; rfl
theorem unw_bad {h : Ho} {x : Id} (hr : rightH h = false) : unwE h x = 1 ∧ unwH h x = zHo := by
  have e : unwE h x = 1 := by unfold unwE; rw [hr]; rfl
  refine ⟨e, ?_⟩
  unfold unwH; rw [e]; rfl
theorem wanH_n {h : Ho} {x : Id} {l : Int} (e : ¬ wanE h x l = 0) : wanH h x l = zHo := by unfold wanH; rw [decide_eq_false e]; rfl
theorem wanH_y {h : Ho} {x : Id} {l : Int} (e : wanE h x l = 0) : wanH h x l = morH h x l := by unfold wanH; rw [decide_eq_true e]; rfl
theorem wan_1 {h : Ho} {x : Id} {l : Int} (hl : ¬ (1 ≤ l ∧ l ≤ 1048576)) : wanE h x l = 1 := by
  have e : inb l 1 1048576 = false := by
    cases g : inb l 1 1048576 with
    | false => rfl
    | true => exact absurd (inb_iff.1 g) hl
  unfold wanE; rw [e, Bool.and_false]; rfl
theorem wan_7 {h : Ho} {x : Id} {l : Int} (hr : rightH h = true) (hl : 1 ≤ l ∧ l ≤ 1048576) (ht : decide (0 ≤ wtI h x) = true) : wanE h x l = 7 := by unfold wanE; rw [hr, inb_iff.2 hl, ht]; rfl
theorem wan_8 {h : Ho} {x : Id} {l : Int} (hr : rightH h = true) (hl : 1 ≤ l ∧ l ≤ 1048576) (ht : decide (0 ≤ wtI h x) = false) (h8 : decide (h.ws.length = 8) = true) : wanE h x l = 8 := by unfold wanE; rw [hr, inb_iff.2 hl, ht, h8]; rfl
theorem wan_0 {h : Ho} {x : Id} {l : Int} (hr : rightH h = true) (hl : 1 ≤ l ∧ l ≤ 1048576) (ht : decide (0 ≤ wtI h x) = false) (h8 : decide (h.ws.length = 8) = false) : wanE h x l = 0 := by unfold wanE; rw [hr, inb_iff.2 hl, ht, h8]; rfl
theorem unw_n {h : Ho} {x : Id} (hr : rightH h = true) (ht : wtI h x < 0) : unwE h x = 6 ∧ unwH h x = zHo := by
  have e : unwE h x = 6 := by unfold unwE; rw [hr, decide_eq_true ht]; rfl
  refine ⟨e, ?_⟩
  unfold unwH; rw [e]; rfl
theorem unw_y {h : Ho} {x : Id} (hr : rightH h = true) (ht : ¬ wtI h x < 0) : unwE h x = 0 ∧ unwH h x = lesH h x := by
  have e : unwE h x = 0 := by unfold unwE; rw [hr, decide_eq_false ht]; rfl
  refine ⟨e, ?_⟩
  unfold unwH; rw [e]; rfl
/-! sends -/
theorem ak_bad {h : Ho} {now : Int} (hb : ¬ (rightH h = true ∧ 0 ≤ now ∧ now ≤ 1099511627776)) : akE h now = 1 ∧ akL h now = [] := by
  have e : (rightH h && inb now 0 1099511627776) = false := by
    cases g : (rightH h && inb now 0 1099511627776) with
    | false => rfl
    | true => rw [Bool.and_eq_true, inb_iff] at g; exact absurd g hb
  unfold akE akL; rw [e]; exact ⟨rfl, rfl⟩
theorem ak_ok {h : Ho} {now : Int} (hb : rightH h = true ∧ 0 ≤ now ∧ now ≤ 1099511627776) : akE h now = 0 ∧ akL h now = askM9 h now := by
  have e : (rightH h && inb now 0 1099511627776) = true := by rw [Bool.and_eq_true, inb_iff]; exact hb
  unfold akE akL; rw [e]; exact ⟨rfl, rfl⟩
theorem sd_1 {h : Ho} {l : List Ent} {d : ByteArray} {now : Int} (hb : ¬ (rightH h = true ∧ (0 ≤ now ∧ now ≤ 1099511627776) ∧ rightE l = true)) : sdE h l d now = 1 ∧ sdX h l d now = zSe := by
  have e : (rightH h && (inb now 0 1099511627776 && rightE l)) = false := by
    cases g : (rightH h && (inb now 0 1099511627776 && rightE l)) with
    | false => rfl
    | true => rw [Bool.and_eq_true, Bool.and_eq_true, inb_iff] at g; exact absurd g hb
  have e1 : sdE h l d now = 1 := by unfold sdE; rw [e]; rfl
  refine ⟨e1, ?_⟩
  unfold sdX; rw [e1]; rfl
theorem sd_2 {h : Ho} {l : List Ent} {d : ByteArray} {now : Int} (hb : rightH h = true ∧ (0 ≤ now ∧ now ≤ 1099511627776) ∧ rightE l = true) (hd : ¬ d.size ≤ 64) : sdE h l d now = 2 ∧ sdX h l d now = zSe := by
  have e : (rightH h && (inb now 0 1099511627776 && rightE l)) = true := by rw [Bool.and_eq_true, Bool.and_eq_true, inb_iff]; exact hb
  have e1 : sdE h l d now = 2 := by unfold sdE; rw [e, decide_eq_false hd]; rfl
  refine ⟨e1, ?_⟩
  unfold sdX; rw [e1]; rfl
theorem sd_0 {h : Ho} {l : List Ent} {d : ByteArray} {now : Int} (hb : rightH h = true ∧ (0 ≤ now ∧ now ≤ 1099511627776) ∧ rightE l = true) (hd : d.size ≤ 64) : sdE h l d now = 0 ∧ sdX h l d now = sndM9 h l d now := by
  have e : (rightH h && (inb now 0 1099511627776 && rightE l)) = true := by rw [Bool.and_eq_true, Bool.and_eq_true, inb_iff]; exact hb
  have e1 : sdE h l d now = 0 := by unfold sdE; rw [e, decide_eq_true hd]; rfl
  refine ⟨e1, ?_⟩
  unfold sdX; rw [e1]; rfl
theorem sends_mem {K : List S2} {L : List Se} (h : sends K = L) : ∀ x ∈ K, x.1 ∈ L := fun x hx => by rw [← h]; exact List.mem_map.2 ⟨x, hx, rfl⟩
theorem sends_l {K : List S2} {L : List Se} (h : sends K = L) (hL : ∀ x ∈ L, x.2.1.l = []) : ∀ x ∈ K, x.1.2.1.l.length ≤ 1000 := fun x hx => by rw [hL _ (sends_mem h x hx)]; exact Nat.zero_le _
end Go.Proofs.Ythjkhnhiciamaaa

namespace Go.Proofs.Ythjkhnhiciamaaa
open Go.RowKit
/-! ### what a host's answers come to -/
section
variable {h : Ho} {fr : Int} {m : Mg} {now : Int}
/-- what is well handled -/
inductive HqC (h : Ho) (fr : Int) (m : Mg) (now : Int) (H : Hq) : Prop where
  | data (k : m.k = 1) (q : m.l.getD 0 (0, 0#256, 0) = selfH h) (b : h.bx.length ≠ 32) (e : H = ⟨⟨h.no, h.gt, h.ws, h.hs, h.bx ++ [m.d]⟩, [], 0⟩)
  | ask (k : m.k = 3) (q : m.t = selfH h) (b : ¬ wtI h m.i < 0) (e : H = ⟨h, [(fr, echG h m, zTg)], 0⟩)
  | ack (k : m.k = 5) (b : ¬ wtI h m.i < 0) (e : H = ⟨h, [], 0⟩)
  | push (k : m.k = 7) (e : H = ⟨fgtH h m.i, [], 0⟩)
  | cache (k : m.k = 8) (b : m.n ≤ 15) (e : H = ⟨⟨h.no, h.gt, h.ws, lrnL h.hs m.i m.n now, h.bx⟩, [], 0⟩)
theorem hq_all (h : Ho) (fr : Int) (m : Mg) (now : Int) : (hnqB h fr m now = true ∧ HqC h fr m now (hnqH h fr m now)) ∨ ∃ e, e ≠ 0 ∧ hnqH h fr m now = badHq e := by
  cases hb : hnqB h fr m now with
  | false => exact .inr ⟨1, by decide, hq_bad hb⟩
  | true =>
    rw [hq_ok hb]
    cases k1 : decide (m.k = 1) with
    | true =>
      rw [kq_1 k1]
      cases q : decide (m.l.getD 0 (0, 0#256, 0) = selfH h) with
      | false => exact .inr ⟨1, by decide, dq_1 q⟩
      | true =>
        cases b : decide (h.bx.length = 32) with
        | true => exact .inr ⟨8, by decide, dq_2 q b⟩
        | false => exact .inl ⟨rfl, .data (of_decide_eq_true k1) (of_decide_eq_true q) (of_decide_eq_false b) (dq_3 q b)⟩
    | false =>
    cases k3 : decide (m.k = 3) with
    | true =>
      rw [kq_3 k1 k3]
      cases q : decide (m.t = selfH h) with
      | false => exact .inr ⟨1, by decide, aq_1 q⟩
      | true =>
        cases b : decide (wtI h m.i < 0) with
        | true => exact .inr ⟨6, by decide, aq_2 q b⟩
        | false => exact .inl ⟨rfl, .ask (of_decide_eq_true k3) (of_decide_eq_true q) (of_decide_eq_false b) (aq_3 q b)⟩
    | false =>
    cases k5 : decide (m.k = 5) with
    | true =>
      rw [kq_5 k1 k3 k5]
      cases b : decide (wtI h m.i < 0) with
      | true => exact .inr ⟨6, by decide, kq_a b⟩
      | false => exact .inl ⟨rfl, .ack (of_decide_eq_true k5) (of_decide_eq_false b) (kq_b b)⟩
    | false =>
    cases k7 : decide (m.k = 7) with
    | true =>
      rw [kq_7 k1 k3 k5 k7]
      exact .inl ⟨rfl, .push (of_decide_eq_true k7) rfl⟩
    | false =>
    cases k8 : decide (m.k = 8) with
    | true =>
      rw [kq_8 k1 k3 k5 k7 k8]
      cases b : decide (15 < m.n) with
      | true => exact .inr ⟨1, by decide, lq_1 b⟩
      | false => exact .inl ⟨rfl, .cache (of_decide_eq_true k8) (by have := of_decide_eq_false b; omega) (lq_2 b)⟩
    | false =>
      rw [kq_9 k1 k3 k5 k7 k8]
      exact .inr ⟨1, by decide, rfl⟩
theorem hq_no (e : ¬ (hnqH h fr m now).e = 0) : (hnqH h fr m now).l = [] ∧ (hnqH h fr m now).h = zHo := by
  rcases hq_all h fr m now with ⟨_, g⟩ | ⟨e', he, g⟩
  · exfalso
    cases g with
    | data _ _ _ g => rw [g] at e; exact e rfl
    | ask _ _ _ g => rw [g] at e; exact e rfl
    | ack _ _ g => rw [g] at e; exact e rfl
    | push _ g => rw [g] at e; exact e rfl
    | cache _ _ g => rw [g] at e; exact e rfl
  · rw [g]; exact ⟨rfl, rfl⟩
theorem hq_snd : (hnqH h fr m now).l.length ≤ 1 ∧ ∀ x ∈ (hnqH h fr m now).l, x.2.1.l = [] := by
  rcases hq_all h fr m now with ⟨_, g⟩ | ⟨e', he, g⟩
  · cases g with
    | data _ _ _ g => rw [g]; exact ⟨Nat.zero_le _, fun _ h => by cases h⟩
    | ask _ _ _ g => rw [g]; exact ⟨Nat.le_refl _, fun x h => by rw [List.mem_singleton.1 h]; rfl⟩
    | ack _ _ g => rw [g]; exact ⟨Nat.zero_le _, fun _ h => by cases h⟩
    | push _ g => rw [g]; exact ⟨Nat.zero_le _, fun _ h => by cases h⟩
    | cache _ _ g => rw [g]; exact ⟨Nat.zero_le _, fun _ h => by cases h⟩
  · rw [g]; exact ⟨Nat.zero_le _, fun _ h => by cases h⟩
theorem lrn_len (l : List Hn) (x : Id) (n now : Int) : (lrnL l x n now).length ≤ l.length + 1 := by
  unfold lrnL
  rw [List.length_append]
  have := lst_le (fgtL l x)
  have := fgt_le l x
  simp; omega
theorem b9_hq (hb : h.ws.length ≤ 1000 ∧ h.hs.length ≤ 990 ∧ h.bx.length ≤ 990) : B9 (hnqH h fr m now).h := by
  rcases hq_all h fr m now with ⟨_, g⟩ | ⟨e', he, g⟩
  · cases g with
    | data _ _ _ g => rw [g]; exact ⟨hb.1, by show h.hs.length ≤ _; omega, by show (h.bx ++ [_]).length ≤ _; rw [List.length_append]; simp; omega⟩
    | ask _ _ _ g => rw [g]; exact ⟨hb.1, by show h.hs.length ≤ _; omega, by show h.bx.length ≤ _; omega⟩
    | ack _ _ g => rw [g]; exact ⟨hb.1, by show h.hs.length ≤ _; omega, by show h.bx.length ≤ _; omega⟩
    | push _ g => rw [g]; exact ⟨hb.1, by show (fgtL h.hs _).length ≤ _; have := fgt_le h.hs m.i; omega, by show h.bx.length ≤ _; omega⟩
    | cache _ _ g => rw [g]; exact ⟨hb.1, by show (lrnL h.hs _ _ _).length ≤ _; have := lrn_len h.hs m.i m.n now; omega, by show h.bx.length ≤ _; omega⟩
  · rw [g]; exact b9_z
end
theorem few_n (h : Ho) : (fewHo h).ws.length ≤ 1000 ∧ (fewHo h).hs.length ≤ 990 ∧ (fewHo h).bx.length ≤ 990 := ⟨Nat.le_trans (few_ws h) (by decide), Nat.le_trans (few_hs h) (by decide), Nat.le_trans (few_bx h) (by decide)⟩
/-! what may be stays such -/
section
variable {h : Ho} {fr : Int} {m : Mg} {now : Int}
end
/-! hints -/
section
variable {h : Ho} {x : Id} {n now : Int}
end
/-! what it asks -/
section
variable {h : Ho} {x : Id} {now : Int}
end
end Go.Proofs.Ythjkhnhiciamaaa

namespace Go.Proofs.Ythjkhnhiciamaaa
open Go.RowKit
section
variable (n : Int) (m : Mg) (v : Value) (t : Tg)
end
def hoS : Value → Value
  | .agg a => pkO (a[4]?)
  | _ => .slice none 0 0
theorem hoS_of {w : World} {v a b : Value} {sz n : Nat} {xs : List Value} (h : RdZ w v sz n xs) (k g : Int) : hoS (.agg (hoArr k g a b v)) = v := by
  obtain ⟨p, c, rfl⟩ := h.len
  rfl
theorem hoS_one (v : Value) : (hoS v).oneCell' = true := by
  unfold hoS
  split
  · exact pkO_one _
  · rfl
end Go.Proofs.Ythjkhnhiciamaaa

namespace Go.Proofs.Ythjkhnhiciamaaa
open Go.RowKit Go.ChangeShapes Go.WideShapes Go.ChangeAt
/-! ### hosts that come in -/
theorem open_wnL {H : Type} {enc : TypeId × Value → H} {P : Program} {w : World} {base : Nat} {spare : Nat → Bool} {held : Bool} {t tn ti e : TypeId} {g0 g1 : Field} {fuel : Nat} {cs : List Value} {x : DataW H × List MemPlace} (T : IdTy P ti e) (hc : P.cellsOf ti = 32) (hce : P.cellsOf e = 1) (hn : P.underlying tn = some (.int .i64)) (hcn : P.cellsOf tn = 1)
    (ht : P.underlying t = some (.struct #[g0, g1])) (k0 : g0.type = ti) (k1 : g1.type = tn) (p0 : g0.offset = 0) (p1 : g1.offset = 32) (hct : P.cellsOf t = 33)
    (h : DataW.trod enc P w base spare held fuel t cs = some x) : ∃ l : Wn, cs = (wnArr l).toList := by
  obtain ⟨xs, n, rfl, _, hl, hxl, hel⟩ := DataW.trod_struct ht h
  rw [hct] at hl
  have hx2 : xs.length = 2 := by simpa using hxl
  have e0 := hel 0 g0 rfl
  have e1 := hel 1 g1 rfl
  rw [k0, p0, hc, List.getElem?_eq_getElem (by omega)] at e0
  rw [k1, p1, hcn, List.getElem?_eq_getElem (by omega)] at e1
  obtain ⟨a, ha⟩ := open_idL T hc hce e0
  obtain ⟨u, hu, _⟩ := DataW.trod_int hn e1
  refine ⟨(a, u), ?_⟩
  show cs = (idArr a).toList ++ [.int .i64 u]
  rw [← ha, ← hu, List.drop_zero]
  have s1 : (cs.drop 32).take 1 = cs.drop 32 := List.take_of_length_le (by rw [List.length_drop]; omega)
  rw [s1, List.take_append_drop]
theorem open_hnL {H : Type} {enc : TypeId × Value → H} {P : Program} {w : World} {base : Nat} {spare : Nat → Bool} {held : Bool} {t tn ti e : TypeId} {g0 g1 g2 : Field} {fuel : Nat} {cs : List Value} {x : DataW H × List MemPlace} (T : IdTy P ti e) (hc : P.cellsOf ti = 32) (hce : P.cellsOf e = 1) (hn : P.underlying tn = some (.int .i64)) (hcn : P.cellsOf tn = 1)
    (ht : P.underlying t = some (.struct #[g0, g1, g2])) (k0 : g0.type = ti) (k1 : g1.type = tn) (k2 : g2.type = tn) (p0 : g0.offset = 0) (p1 : g1.offset = 32) (p2 : g2.offset = 33) (hct : P.cellsOf t = 34)
    (h : DataW.trod enc P w base spare held fuel t cs = some x) : ∃ l : Hn, cs = (hnArr l).toList := by
  obtain ⟨xs, n, rfl, _, hl, hxl, hel⟩ := DataW.trod_struct ht h
  rw [hct] at hl
  have hx2 : xs.length = 3 := by simpa using hxl
  have e0 := hel 0 g0 rfl
  have e1 := hel 1 g1 rfl
  have e2 := hel 2 g2 rfl
  rw [k0, p0, hc, List.getElem?_eq_getElem (by omega)] at e0
  rw [k1, p1, hcn, List.getElem?_eq_getElem (by omega)] at e1
  rw [k2, p2, hcn, List.getElem?_eq_getElem (by omega)] at e2
  obtain ⟨a, ha⟩ := open_idL T hc hce e0
  obtain ⟨u, hu, _⟩ := DataW.trod_int hn e1
  obtain ⟨q, hq, _⟩ := DataW.trod_int hn e2
  refine ⟨(a, u, q), ?_⟩
  show cs = (idArr a).toList ++ ([.int .i64 u] ++ [.int .i64 q])
  rw [← ha, ← hu, ← hq, List.drop_zero]
  have s1 : (cs.drop 33).take 1 = cs.drop 33 := List.take_of_length_le (by rw [List.length_drop]; omega)
  have s2 : (cs.drop 32).take 1 ++ cs.drop 33 = cs.drop 32 := by
    have := List.take_append_drop 1 (cs.drop 32)
    rw [List.drop_drop] at this
    exact this
  rw [s1, s2, List.take_append_drop]
theorem open_stL {H : Type} {enc : TypeId × Value → H} {P : Program} {w : World} {base : Nat} {spare : Nat → Bool} {held : Bool} {t : TypeId} {fuel : Nat} {cs : List Value} {x : DataW H × List MemPlace} (hz : P.underlying t = some .string)
    (h : DataW.trod enc P w base spare held fuel t cs = some x) : ∃ l : ByteArray, cs = (#[Value.string l] : Array Value).toList := by
  obtain ⟨d9, hd9, _⟩ := DataW.trod_string hz h
  exact ⟨d9, by simpa [Value.cells] using hd9⟩
theorem tx_flat (ls : List ByteArray) : (ls.flatMap fun a => (#[Value.string a] : Array Value).toList) = txC ls := by
  unfold txC
  induction ls with
  | nil => rfl
  | cons a l ih => rw [List.flatMap_cons, List.map_cons, ih]; rfl
theorem open_ho {H : Type} {enc : TypeId × Value → H} {P : Program} {W : World} {r : Reach} {b0 : Nat} {tm tz tsw tw tsh th tst tn ti e : TypeId} {g0 g1 g2 g3 g4 a0 a1 f0 f1 f2 : Field} {v : Value} {d : DataW H} {ps : List MemPlace} (T : IdTy P ti e) (hc : P.cellsOf ti = 32) (hce : P.cellsOf e = 1) (hn : P.underlying tn = some (.int .i64)) (hcn : P.cellsOf tn = 1)
    (hz : P.underlying tz = some .string) (hcz : P.cellsOf tz = 1) (hcw : P.cellsOf tsw = 1) (hch : P.cellsOf tsh = 1) (hci : P.cellsOf tst = 1)
    (htsw : P.underlying tsw = some (.slice tw)) (htw : P.underlying tw = some (.struct #[a0, a1])) (w0 : a0.type = ti) (w1 : a1.type = tn) (q0 : a0.offset = 0) (q1 : a1.offset = 32) (hctw : P.cellsOf tw = 33)
    (htsh : P.underlying tsh = some (.slice th)) (hth : P.underlying th = some (.struct #[f0, f1, f2])) (h0 : f0.type = ti) (h1 : f1.type = tn) (h2 : f2.type = tn) (o0 : f0.offset = 0) (o1 : f1.offset = 32) (o2 : f2.offset = 33) (hcth : P.cellsOf th = 34)
    (htst : P.underlying tst = some (.slice tz))
    (htm : P.underlying tm = some (.struct #[g0, g1, g2, g3, g4])) (ht0 : g0.type = tn) (ht1 : g1.type = tn) (ht2 : g2.type = tsw) (ht3 : g3.type = tsh) (ht4 : g4.type = tst) (ho0 : g0.offset = 0) (ho1 : g1.offset = 1) (ho2 : g2.offset = 2) (ho3 : g3.offset = 3) (ho4 : g4.offset = 4) (hctm : P.cellsOf tm = 5)
    (hval : Value.okWide P W r b0 tm v) (h : DataW.Trod enc P W 0 (fun _ => true) true tm v d ps) : ∃ (p : Ho) (vw vh vi : Value), v = .agg (hoArr p.no p.gt vw vh vi) ∧ RdH W vw vh vi p := by
  have hv : ∃ cs, v = .agg cs := by
    unfold Value.okWide at hval
    simp only [htm] at hval
    obtain ⟨cs, h9, _⟩ := hval
    exact ⟨cs, h9⟩
  obtain ⟨cs, rfl⟩ := hv
  obtain ⟨fuel, hf⟩ := h
  obtain ⟨xs, n, hcells, _, hl, hxl, hel⟩ := DataW.trod_struct htm hf
  have hcl : cs.toList.length = 5 := by rw [← hctm]; simpa [Value.cells] using hl
  have hx5 : xs.length = 5 := by simpa using hxl
  have e0 := hel 0 g0 rfl
  have e1 := hel 1 g1 rfl
  have e2 := hel 2 g2 rfl
  have e3 := hel 3 g3 rfl
  have e4 := hel 4 g4 rfl
  rw [ht0, ho0, hcn, List.getElem?_eq_getElem (by omega)] at e0
  rw [ht1, ho1, hcn, List.getElem?_eq_getElem (by omega)] at e1
  rw [ht2, ho2, hcw, List.getElem?_eq_getElem (by omega)] at e2
  rw [ht3, ho3, hch, List.getElem?_eq_getElem (by omega)] at e3
  rw [ht4, ho4, hci, List.getElem?_eq_getElem (by omega)] at e4
  obtain ⟨k, hk9, _⟩ := DataW.trod_int hn e0
  obtain ⟨k2, hk2, _⟩ := DataW.trod_int hn e1
  obtain ⟨vw, ws, hvw, hws⟩ := open_slK wnArr 33 (by decide) wnArr_size zWn htsw hctw (fun _ _ _ h => open_wnL T hc hce hn hcn htw w0 w1 q0 q1 hctw h) e2
  obtain ⟨vh, hs, hvh, hhs⟩ := open_slK hnArr 34 (by decide) hnArr_size zHn htsh hcth (fun _ _ _ h => open_hnL T hc hce hn hcn hth h0 h1 h2 o0 o1 o2 hcth h) e3
  obtain ⟨vi, bx, hvi, hbx⟩ := open_slK (fun a => #[Value.string a]) 1 (by decide) (fun _ => rfl) ByteArray.empty htst hcz (fun _ _ _ h => open_stL hz h) e4
  rw [tx_flat] at hbx
  refine ⟨⟨k, k2, ws, hs, bx⟩, vw, vh, vi, ?_, hws, hhs, hbx⟩
  have key : cs.toList = (hoArr k k2 vw vh vi).toList := by
    show cs.toList = [.int .i64 k] ++ ([.int .i64 k2] ++ ([vw] ++ ([vh] ++ [vi])))
    simp only [Value.cells] at hk9 hk2 hvw hvh hvi ⊢
    have hd4 : cs.toList.drop 4 = [vi] := by
      rw [List.take_of_length_le (by rw [List.length_drop, hcl]; omega)] at hvi; exact hvi
    have hsplit : cs.toList = cs.toList.take 1 ++ ((cs.toList.drop 1).take 1 ++ ((cs.toList.drop 2).take 1 ++ ((cs.toList.drop 3).take 1 ++ cs.toList.drop 4))) := by
      rw [show cs.toList.drop 4 = (cs.toList.drop 3).drop 1 from by rw [List.drop_drop], List.take_append_drop, show cs.toList.drop 3 = (cs.toList.drop 2).drop 1 from by rw [List.drop_drop], List.take_append_drop, show cs.toList.drop 2 = (cs.toList.drop 1).drop 1 from by rw [List.drop_drop], List.take_append_drop, List.take_append_drop]
    rw [hd4, hk2, hvw, hvh, show cs.toList.take 1 = [.int .i64 k] from hk9] at hsplit
    exact hsplit
  rw [Array.toList_inj.1 key]
end Go.Proofs.Ythjkhnhiciamaaa

namespace Go.Proofs.Ythjkhnhiciamaaa
open Go.RowKit
/-! ### a promoted method, called through an interface: what it gets is a part of what stands behind it -/
def MetV (P : Program) (T : TypeId) (rv : Value) (nm : String) (f : FuncId) (ru : Value) : Prop := ∀ w, (method (P.types.size + Made.depth) T rv nm).run P w = .ok (f, ru) w
theorem does_callP {P : Program} {ρ : Operand → Value} {dst : Option Tmp} {g : Option (Nat × Bool)} {ty : TypeId} {pos : String} {af : Array Edge} {f : FuncId} {T : TypeId} {rv ru : Value} {nm : String} {cal : Operand} {tys : Array TypeId} {w : World} (hf : Fnc P f)
    (hm : MetV P T rv nm f ru) (hc : ρ cal = .iface T rv) {R : Value → World → Prop} (hC : Calls P f #[ru] w fun e w' => ∃ v, e = .returned v ∧ R v w') : Does P ⟨dst, .call { callee := .invoke cal nm, args := #[], argTypes := tys }, ty, pos, af, g⟩ ρ w R := by
  obtain ⟨fn, h1, h2, h3⟩ := hf.has
  unfold Does
  have hm' := hm w
  simp only [execOp, resolve, hc, Sem.run_bind, Sem.run_pure, Result.andThen_ok, invoke, callMethod]
  have e0 : (#[Value.iface T rv] ++ Array.map ρ #[])[0]? = some (Value.iface T rv) := by simp
  rw [e0]
  simp only [callMethod, Sem.run_bind, show ∀ w, Sem.run P program w = .ok P w from fun _ => rfl, Result.andThen_ok, hm']
  have e1 : #[ru] ++ (#[Value.iface T rv] ++ Array.map ρ #[]).extract 1 = #[ru] := by simp
  rw [e1]
  rw [run_callFunc h1 h2 h3]
  exact hC
section
variable {P : Program} {ops : Array Oper} {Q : Act → World → Prop} {l : List Oper} {a : Act} {w w0 : World} {N : Nat} {L : List (Nat × Value)} {Df : List Deferred} {B : List Own} {d : Tmp} {ty : TypeId} {pos : String} {af : Array Edge}
end
section
variable {P : Program} {ops : List Oper} {K : Act → World → Prop} {l : List Oper} {a : Act} {w : World} {N : Nat} {L : List (Nat × Value)} {Df : List Deferred} {d : Tmp} {ty : TypeId} {pos : String} {af : Array Edge}
theorem w_callP {f : FuncId} {T9 : TypeId} {rv ru X : Value} {nm : String} {cal : Operand} {tys : Array TypeId} (h : Sl N a L Df) (hf : Fnc P f) (hm : MetV P T9 rv nm f ru) (hc : evo L cal = some (.iface T9 rv))
    (hC : ∀ w', Ext w w' → Calls P f #[ru] w' (Ret w' (is X))) (hd : Nat.blt d N = true) (k : ∀ a', Sl N a' ((d, X) :: L) Df → Wlk P ops.toArray K w l a') :
    Wlk P ops.toArray K w (⟨some d, .call { callee := .invoke cal nm, args := #[], argTypes := tys }, ty, pos, af, none⟩ :: l) a :=
  w_does X h (fun w' hE => does_callP hf hm (h.ev hc) (hC w' hE)) hd k
variable {ρ : Operand → Value} {e : Option Tmp} {g : Option (Nat × Bool)} {x : Operand} {t : TypeId}
def nmZ : List (List Value) := [(idArr 0#256).toList]
theorem ru_build_nm {i : Id} (S : Stt P t nmZ) (hx : ρ x = .agg (idArr i)) : RunsTo P ⟨e, .build t #[(0, x)], ty, pos, af, g⟩ ρ (.agg (idArr i)) := by
  have := ru_build_st (P := P) (ρ := ρ) (d := e) (ty := ty) (pos := pos) (af := af) (g := g) (parts := #[(0, x)]) S [(0, .agg (idArr i))] (by simp [hx]) (fun j u hm => by
    simp only [List.mem_cons, Prod.mk.injEq, List.not_mem_nil, or_false] at hm
    rcases hm with ⟨rfl, rfl⟩
    exact ⟨_, rfl, by simp [Value.cells]⟩) (D := (idArr i).toList) (by show (idArr i).toList ++ [] = _; rw [List.append_nil])
  exact this
theorem ru_build_ho5 {y z : Operand} {n m : Int} {v : Value} (S : Stt P t hoZ) (hv : v.cells.size = 1) (hc : v.cells.toList = [v]) (hx : ρ x = .int .i64 n) (hy : ρ y = .int .i64 m) (hz : ρ z = v) : RunsTo P ⟨e, .build t #[(0, x), (1, y), (4, z)], ty, pos, af, g⟩ ρ (.agg (hoArr n m nilV nilV v)) := by
  have := ru_build_st (P := P) (ρ := ρ) (d := e) (ty := ty) (pos := pos) (af := af) (g := g) (parts := #[(0, x), (1, y), (4, z)]) S [(0, .int .i64 n), (1, .int .i64 m), (4, v)] (by simp [hx, hy, hz]) (fun j u hm => by
    simp only [List.mem_cons, Prod.mk.injEq, List.not_mem_nil, or_false] at hm
    rcases hm with ⟨rfl, rfl⟩ | ⟨rfl, rfl⟩ | ⟨rfl, rfl⟩
    · exact ⟨_, rfl, rfl⟩
    · exact ⟨_, rfl, rfl⟩
    · exact ⟨_, rfl, hv⟩) (D := hoL n m nilV nilV v) (by
      show [Value.int .i64 n] ++ ([Value.int .i64 m] ++ ([nilV] ++ ([nilV] ++ (v.cells.toList ++ [])))) = _
      rw [hc]; rfl)
  exact this
end
section
variable {fn : Func} {P : Program} {a : Act} {w : World} {N : Nat} {L : List (Nat × Value)} {R : Ending → World → Prop}
theorem e_tmpsF {t u : Tmp} {V U : Value} (hr : fn.results = #[.tmp t, .tmp u]) (h : Sl N a L) (hv : lk L t = some V) (hu : lk L u = some U) (hR : R (.returned (.tuple #[V, U])) w) : bodyPost P fn R .ret a w :=
  ⟨h.defers, .tuple #[V, U], by rw [results_tmp2 hr, h.holds t V hv, h.holds u U hu], hR⟩
end
/-! ### those that stay, in place -/
section
variable {α : Type} (z : α) (q : α → Bool) (l : List α)
def stG (j : Nat) : List α := (l.take j).filter q ++ l.drop ((l.take j).filter q).length
def ixG (j : Nat) : Nat := ((l.take j).filter q).length
theorem gD {l : List α} {j : Nat} (hj : j < l.length) : l[j] = l.getD j z := by
  rw [List.getD_eq_getElem?_getD, List.getElem?_eq_getElem hj]; rfl
theorem g_mem {l : List α} {j : Nat} (hj : j < l.length) : l.getD j z ∈ l := by rw [← gD z hj]; exact List.getElem_mem hj
theorem g_take {l : List α} {d : Nat} (hd : d < l.length) : l.take (d + 1) = l.take d ++ [l.getD d z] := by rw [List.take_succ_eq_append_getElem hd, gD z hd]
theorem ixG_le (j : Nat) : ixG q l j ≤ j := by
  unfold ixG
  have := List.length_filter_le q (l.take j)
  rw [List.length_take] at this; omega
theorem ixG_len (j : Nat) : ixG q l j ≤ l.length := by
  unfold ixG
  have := List.length_filter_le q (l.take j)
  rw [List.length_take] at this; omega
theorem stG_len (j : Nat) : (stG q l j).length = l.length := by
  have := ixG_len q l j
  unfold ixG at this
  unfold stG; rw [List.length_append, List.length_drop]; omega
variable {q l}
theorem stG_get {j : Nat} (_hj : j < l.length) : (stG q l j).getD j z = l.getD j z := by
  have h1 := ixG_le q l j
  unfold ixG at h1
  unfold stG
  rw [List.getD_eq_getElem?_getD, List.getElem?_append_right h1, List.getElem?_drop, List.getD_eq_getElem?_getD]
  congr 2
  omega
theorem stG_no {j : Nat} (hj : j < l.length) (h : q (l.getD j z) = false) : stG q l (j + 1) = stG q l j ∧ ixG q l (j + 1) = ixG q l j := by
  have e : (l.take (j + 1)).filter q = (l.take j).filter q := by rw [g_take z hj, List.filter_append, List.filter_cons, h]; simp
  unfold stG ixG; rw [e]; exact ⟨rfl, rfl⟩
theorem stG_yes {j : Nat} (hj : j < l.length) (h : q (l.getD j z) = true) : stG q l (j + 1) = (stG q l j).set (ixG q l j) (l.getD j z) ∧ ixG q l (j + 1) = ixG q l j + 1 := by
  have e : (l.take (j + 1)).filter q = (l.take j).filter q ++ [l.getD j z] := by rw [g_take z hj, List.filter_append, List.filter_cons, h]; simp
  have h1 := ixG_le q l j
  refine ⟨?_, by unfold ixG; rw [e, List.length_append]; rfl⟩
  unfold ixG at h1
  unfold stG ixG
  rw [e, List.length_append]
  show (_ ++ [_]) ++ l.drop (_ + 1) = _
  rw [List.set_append_right _ _ (Nat.le_refl _), Nat.sub_self, List.append_assoc]
  congr 1
  rw [List.drop_eq_getElem_cons (show ((l.take j).filter q).length < l.length by omega), List.set_cons_zero]; rfl
theorem stG_start {k : Nat} (hk : k < l.length) (h : ∀ i, i < k → q (l.getD i z) = true) (hq : q (l.getD k z) = false) : stG q l (k + 1) = l ∧ ixG q l (k + 1) = k := by
  have e : (l.take k).filter q = l.take k := by
    rw [List.filter_eq_self]
    intro x hx
    obtain ⟨i, hi, rfl⟩ := List.mem_iff_getElem.1 hx
    rw [List.length_take] at hi
    rw [List.getElem_take, gD z (by omega)]
    exact h i (by omega)
  obtain ⟨e1, e2⟩ := stG_no z hk hq
  rw [e1, e2]
  unfold stG ixG
  rw [e, List.length_take, Nat.min_eq_left (by omega), List.take_append_drop]
  exact ⟨rfl, rfl⟩
variable (q l)
theorem ixG_end : ixG q l l.length = (l.filter q).length := by unfold ixG; rw [List.take_length]
variable {q l}
theorem ixG_lt {k : Nat} (hk : k < l.length) (hq : q (l.getD k z) = false) : (l.filter q).length < l.length := by
  rcases Nat.lt_or_ge (l.filter q).length l.length with h | h
  · exact h
  · have h1 := List.length_filter_le q l
    have h2 : l.filter q = l := List.filter_eq_self.2 (List.length_filter_eq_length_iff.1 (show (l.filter q).length = l.length by omega))
    have h3 := List.filter_eq_self.1 h2 _ (g_mem z hk)
    rw [hq] at h3; cases h3
theorem drop_noneG {p : α → Bool} (h : ∀ x ∈ l, p x = false) : (l.filter fun x => !p x) = l := List.filter_eq_self.2 fun x hx => by rw [h x hx]; rfl
variable {f : α → List Value} {sz : Nat}
theorem g_set (hf : ∀ x, (f x).length = sz) {j : Nat} (hj : j < l.length) (x : α) : (l.flatMap f).take (j * sz) ++ f x ++ (l.flatMap f).drop (j * sz + sz) = (l.set j x).flatMap f := by
  rw [cells_take f sz hf, show j * sz + sz = (j + 1) * sz from (Nat.succ_mul j sz).symm, cells_drop f sz hf, List.set_eq_take_append_cons_drop, if_pos hj, List.flatMap_append, List.flatMap_cons, List.append_assoc]
theorem drop_finG (hf : ∀ x, (f x).length = sz) (cur : List Value) (zs : List Value) (q : α → Bool) (l : List α) (h1 : cur.take (l.length * sz) = (stG q l l.length).flatMap f) (hl : l.length * sz ≤ cur.length) (hz : zs.length = (l.length - (l.filter q).length) * sz) (o : Nat) (ho : o = (l.filter q).length * sz) (m : Nat) (hm : m = (l.length - (l.filter q).length) * sz) :
    (cur.take o ++ zs ++ cur.drop (o + m)).length = cur.length ∧ (cur.take o ++ zs ++ cur.drop (o + m)).take o = (l.filter q).flatMap f := by
  subst ho; subst hm
  have hle := List.length_filter_le q l
  obtain ⟨e1, e2⟩ := clr_fin cur zs ((l.filter q).length * sz) ((l.length - (l.filter q).length) * sz) (by rw [← Nat.add_mul]; rw [show (l.filter q).length + (l.length - (l.filter q).length) = l.length by omega]; exact hl) hz
  refine ⟨e1, e2.trans ?_⟩
  have h9 := congrArg (List.take ((l.filter q).length * sz)) h1
  rw [List.take_take, Nat.min_eq_left (Nat.mul_le_mul_right sz hle)] at h9
  rw [h9]
  unfold stG
  rw [List.take_length, List.flatMap_append, List.take_left' (cells_len f sz hf _)]
end
theorem clone_nilG {α : Type} {C : List α → List Value} {l : List α} {w : World} {a : Option Addr} {n c sz : Nat} (ha : a.isNone = true) (h : RdZ w (.slice a n c) sz l.length (C l)) : l = [] := by
  rcases h.2 with ⟨_, e2⟩ | ⟨p, c9, e, _⟩
  · exact List.eq_nil_of_length_eq_zero e2
  · injection e with e1; subst e1; cases ha
theorem sl_sameG {w : World} {B : List Own} {w' : World} {v : Value} {M : TypeId} {sz : Nat} {α : Type} {C : List α → List Value} {l r : List α} (h : l = r) (s : St w (.sl v M sz l.length (C l) :: B) w') : St w (.sl v M sz r.length (C r) :: B) w' := by subst h; exact s
end Go.Proofs.Ythjkhnhiciamaaa

namespace Go.Proofs.Ythjkhnhiciamaaa
open Go.RowKit
/-! ### package host's own: rows of things, a host as it is worked on -/
theorem id_all (x : Id) : (idArr x).extract 0 (0 + 32) = idArr x := by
  apply Array.ext'
  rw [Array.toList_extract, List.extract_eq_take_drop]
  show (List.drop 0 (idArr x).toList).take 32 = _
  rw [List.drop_zero, List.take_of_length_le (by rw [Array.length_toList, idArr_size]; exact Nat.le_refl _)]
theorem wn_set {K : List Wn} {j : Nat} (hj : j < K.length) (x : Wn) : (wnCells K).take (j * 33) ++ (wnArr x).toList ++ (wnCells K).drop (j * 33 + 33) = wnCells (K.set j x) := g_set wnL_len hj x
theorem hn_set {K : List Hn} {j : Nat} (hj : j < K.length) (x : Hn) : (hnCells K).take (j * 34) ++ (hnArr x).toList ++ (hnCells K).drop (j * 34 + 34) = hnCells (K.set j x) := g_set hnL_len hj x
theorem wn_fin (cur zs : List Value) (q : Wn → Bool) (l : List Wn) (h1 : cur.take (l.length * 33) = wnCells (stG q l l.length)) (hl : l.length * 33 ≤ cur.length) (hz : zs.length = (l.length - (l.filter q).length) * 33) (o : Nat) (ho : o = (l.filter q).length * 33) (m : Nat) (hm : m = (l.length - (l.filter q).length) * 33) :
    (cur.take o ++ zs ++ cur.drop (o + m)).length = cur.length ∧ (cur.take o ++ zs ++ cur.drop (o + m)).take o = wnCells (l.filter q) := drop_finG wnL_len cur zs q l h1 hl hz o ho m hm
theorem hn_fin (cur zs : List Value) (q : Hn → Bool) (l : List Hn) (h1 : cur.take (l.length * 34) = hnCells (stG q l l.length)) (hl : l.length * 34 ≤ cur.length) (hz : zs.length = (l.length - (l.filter q).length) * 34) (o : Nat) (ho : o = (l.filter q).length * 34) (m : Nat) (hm : m = (l.length - (l.filter q).length) * 34) :
    (cur.take o ++ zs ++ cur.drop (o + m)).length = cur.length ∧ (cur.take o ++ zs ++ cur.drop (o + m)).take o = hnCells (l.filter q) := drop_finG hnL_len cur zs q l h1 hl hz o ho m hm
/-! where the thing of an identifier stands -/
theorem ky_wn {l : List Wn} {x : Id} {r : Int} (hr : (r = -1 ∧ ∀ y ∈ l, decide (y.1 = x) = false) ∨ ∃ k : Nat, k < l.length ∧ r = (k : Int) ∧ decide ((l.getD k zWn).1 = x) = true ∧ ∀ i, i < k → decide ((l.getD i zWn).1 = x) = false) : r = kyI (wk l) x := by
  rcases hr with ⟨rfl, h⟩ | ⟨k, hk, rfl, h, hb⟩
  · exact (kyI_no fun j hj => by rw [wk_at]; rw [wk_len] at hj; exact of_decide_eq_false (h _ (wn_mem hj))).symm
  · exact (kyI_at (by rw [wk_len]; exact hk) (by rw [wk_at]; exact of_decide_eq_true h) fun j hj => by rw [wk_at]; exact of_decide_eq_false (hb j hj)).symm
theorem ky_hn {l : List Hn} {x : Id} {r : Int} (hr : (r = -1 ∧ ∀ y ∈ l, decide (y.1 = x) = false) ∨ ∃ k : Nat, k < l.length ∧ r = (k : Int) ∧ decide ((l.getD k zHn).1 = x) = true ∧ ∀ i, i < k → decide ((l.getD i zHn).1 = x) = false) : r = kyI (hk l) x := by
  rcases hr with ⟨rfl, h⟩ | ⟨k, hk', rfl, h, hb⟩
  · exact (kyI_no fun j hj => by rw [hk_at]; rw [hk_len] at hj; exact of_decide_eq_false (h _ (hn_mem hj))).symm
  · exact (kyI_at (by rw [hk_len]; exact hk') (by rw [hk_at]; exact of_decide_eq_true h) fun j hj => by rw [hk_at]; exact of_decide_eq_false (hb j hj)).symm
theorem ky_take {l : List Id} {k : Nat} (hk : k < l.length) : decide (0 ≤ kyI (l.take k) (l.getD k 0#256)) = !decide (kyI l (l.getD k 0#256) = (k : Int)) := by
  have key : kyI (l.take k) (l.getD k 0#256) < 0 ↔ kyI l (l.getD k 0#256) = (k : Int) := by
    rw [kyI_neg]
    constructor
    · intro h
      refine kyI_at hk rfl fun j hj => h _ ?_
      have hj2 : j < (l.take k).length := by rw [List.length_take]; omega
      rw [← idD (by omega), ← List.getElem_take (h := hj2)]
      exact List.getElem_mem hj2
    · intro h y hy
      obtain ⟨j, hj, rfl⟩ := List.mem_iff_getElem.1 hy
      rw [List.length_take] at hj
      rw [List.getElem_take, idD (by omega)]
      rcases kyI_cases l (l.getD k 0#256) with ⟨h1, _⟩ | ⟨k2, h1, h2, _, h4⟩
      · omega
      · exact h4 j (by omega)
  rw [← decide_not]
  exact decide_eq_decide.2 ⟨fun h e => by have := key.2 e; omega, fun h => by
    rcases Int.lt_or_le (kyI (l.take k) (l.getD k 0#256)) 0 with g | g
    · exact absurd (key.1 g) h
    · exact g⟩
theorem pl_wn {l : List Wn} {k : Nat} (h9 : k < l.length) : decide (0 ≤ kyI (wk (l.take k)) (l.getD k zWn).1) = !decide (kyI (wk l) (l.getD k zWn).1 = (k : Int)) := by
  have := ky_take (l := wk l) (k := k) (by rw [wk_len]; exact h9)
  rw [wk_at] at this
  rw [show wk (l.take k) = (wk l).take k from List.map_take ..]
  exact this
theorem pl_hn {l : List Hn} {k : Nat} (h9 : k < l.length) : decide (0 ≤ kyI (hk (l.take k)) (l.getD k zHn).1) = !decide (kyI (hk l) (l.getD k zHn).1 = (k : Int)) := by
  have := ky_take (l := hk l) (k := k) (by rw [hk_len]; exact h9)
  rw [hk_at] at this
  rw [show hk (l.take k) = (hk l).take k from List.map_take ..]
  exact this
/-! which rows may be -/
def rwW (l : List Wn) : Bool := decide (l.length ≤ 8) && (List.range l.length).all (okW l)
def rwH (l : List Hn) : Bool := decide (l.length ≤ 8) && (List.range l.length).all (okHn l)
def rgN (x : Hn) : Bool := inb x.2.1 0 15 && inb x.2.2 0 1099511627776
theorem rw_len {l : List Wn} (h : 8 < l.length) : rwW l = false := by unfold rwW; rw [decide_eq_false (by omega)]; rfl
theorem rh_len {l : List Hn} (h : 8 < l.length) : rwH l = false := by unfold rwH; rw [decide_eq_false (by omega)]; rfl
theorem rw_no {l : List Wn} {k : Nat} (hk : k < l.length) (e : okW l k = false) : rwW l = false := by
  unfold rwW
  rw [show (List.range l.length).all (okW l) = false from by
    rw [List.all_eq_false]; exact ⟨k, List.mem_range.2 hk, by rw [e]; decide⟩, Bool.and_false]
theorem rh_no {l : List Hn} {k : Nat} (hk : k < l.length) (e : okHn l k = false) : rwH l = false := by
  unfold rwH
  rw [show (List.range l.length).all (okHn l) = false from by
    rw [List.all_eq_false]; exact ⟨k, List.mem_range.2 hk, by rw [e]; decide⟩, Bool.and_false]
theorem rw_yes {l : List Wn} (h : l.length ≤ 8) (e : ∀ j, j < l.length → okW l j = true) : rwW l = true := by unfold rwW; rw [all_rng e, decide_eq_true h]; rfl
theorem rh_yes {l : List Hn} (h : l.length ≤ 8) (e : ∀ j, j < l.length → okHn l j = true) : rwH l = true := by unfold rwH; rw [all_rng e, decide_eq_true h]; rfl
theorem okN_0 {l : List Hn} {k : Nat} (h : rgN (l.getD k zHn) = false) : okHn l k = false := by
  unfold rgN at h; unfold okHn
  rw [← Bool.and_assoc, h]; rfl
theorem okN_1 {l : List Hn} {k : Nat} (h : rgN (l.getD k zHn) = true) {b : Bool} (h2 : decide (kyI (hk l) (l.getD k zHn).1 = (k : Int)) = b) : okHn l k = b := by
  unfold rgN at h; unfold okHn
  rw [← Bool.and_assoc, h, h2]; rfl
def lgS (s : ByteArray) : Bool := decide (64 < s.size)
def inR (h : Ho) : Bool := inb h.no 0 15 && (inb h.gt 0 15 && (rwW h.ws && (rwH h.hs && (decide (h.bx.length ≤ 32) && !h.bx.any lgS))))
theorem bx_all (l : List ByteArray) : (List.range l.length).all (okTx l) = !l.any lgS := by
  cases e : l.any lgS with
  | false =>
    refine all_rng fun j hj => decide_eq_true ?_
    have := List.any_eq_false.1 e _ (st_mem hj)
    unfold lgS at this
    rw [decide_eq_true_eq] at this; omega
  | true =>
    obtain ⟨s, hs, h9⟩ := List.any_eq_true.1 e
    obtain ⟨j, hj, rfl⟩ := List.mem_iff_getElem.1 hs
    show _ = false
    rw [List.all_eq_false]
    refine ⟨j, List.mem_range.2 hj, ?_⟩
    unfold okTx
    unfold lgS at h9
    rw [← stD hj, decide_eq_true_eq]
    have := of_decide_eq_true h9; omega
theorem inR_eq (h : Ho) : inR h = rightH h := by
  unfold inR rightH okB rwW rwH
  rw [bx_all]
  generalize inb h.no 0 15 = a; generalize inb h.gt 0 15 = b; generalize decide (h.ws.length ≤ 8) = c; generalize decide (h.hs.length ≤ 8) = d; generalize decide (h.bx.length ≤ 32) = e
  generalize (List.range h.ws.length).all (okW h.ws) = f; generalize (List.range h.hs.length).all (okHn h.hs) = g; generalize (!h.bx.any lgS) = i
  cases a <;> cases b <;> cases c <;> cases d <;> cases e <;> cases f <;> cases g <;> cases i <;> rfl
section
variable {h : Ho}
theorem inR_0 (a : inb h.no 0 15 = false) : rightH h = false := by rw [← inR_eq]; unfold inR; rw [a]; rfl
theorem inR_1 (a : inb h.no 0 15 = true) (b : inb h.gt 0 15 = false) : rightH h = false := by rw [← inR_eq]; unfold inR; rw [a, b]; rfl
theorem inR_2 (a : inb h.no 0 15 = true) (b : inb h.gt 0 15 = true) (c : rwW h.ws = false) : rightH h = false := by rw [← inR_eq]; unfold inR; rw [a, b, c]; rfl
theorem inR_3 (a : inb h.no 0 15 = true) (b : inb h.gt 0 15 = true) (c : rwW h.ws = true) (d : rwH h.hs = false) : rightH h = false := by rw [← inR_eq]; unfold inR; rw [a, b, c, d]; rfl
theorem inR_4 (a : inb h.no 0 15 = true) (b : inb h.gt 0 15 = true) (c : rwW h.ws = true) (d : rwH h.hs = true) {e : Bool} (f : decide (h.bx.length ≤ 32) = e) : rightH h = (e && !h.bx.any lgS) := by rw [← inR_eq]; unfold inR; rw [a, b, c, d, f]; rfl
end
theorem hadr_iff {fr : Int} (hb : -9223372036854775808 ≤ fr ∧ fr ≤ 9223372036854775807) (h0 : inb fr 0 15 = false) : inb (IntKind.wrap .i64 (fr - 16)) 0 15 = inb fr 0 31 := by
  have h1 : ¬ (0 ≤ fr ∧ fr ≤ 15) := fun e => by rw [inb_iff.2 e] at h0; cases h0
  have h2 : IntKind.wrap .i64 (fr - 16) = fr - 16 ∨ (fr < 0 ∧ 15 < IntKind.wrap .i64 (fr - 16)) := by
    rcases Int.lt_or_le (fr - 16) (-9223372036854775808) with g | g
    · right
      refine ⟨by omega, ?_⟩
      have e : IntKind.wrap .i64 (fr - 16) = if (fr - 16) % 18446744073709551616 ≥ 9223372036854775808 then (fr - 16) % 18446744073709551616 - 18446744073709551616 else (fr - 16) % 18446744073709551616 := by
        unfold IntKind.wrap
        simp [IntKind.bits, IntKind.signed]
      rw [e]
      split <;> omega
    · left
      exact IntWalk.i64_in _ (by omega)
  have : inb (IntKind.wrap .i64 (fr - 16)) 0 15 = true ↔ inb fr 0 31 = true := by
    rw [inb_iff, inb_iff]
    omega
  cases e : inb (IntKind.wrap .i64 (fr - 16)) 0 15 with
  | true => exact (this.1 e).symm
  | false =>
    cases f : inb fr 0 31 with
    | false => rfl
    | true => rw [this.2 f] at e; cases e
theorem hadr_y {fr : Int} (h0 : inb fr 0 15 = true) : inb fr 0 31 = true := by
  rw [inb_iff] at h0 ⊢; omega
/-! without: the one that is wanted is gone -/
theorem erase_one {α : Type} [DecidableEq α] {β : Type} (f : β → α) : ∀ (l : List β) (i : Nat) (hi : i < l.length), (l.map f).Nodup → (l.filter fun y => !decide (f y = f l[i])) = l.take i ++ l.drop (i + 1)
  | [], _, hi, _ => absurd hi (Nat.not_lt_zero _)
  | a :: l, 0, _, h => by
    have h := (List.nodup_cons.1 h).1
    show List.filter (fun y => !decide (f y = f a)) (a :: l) = l
    rw [List.filter_cons, decide_eq_true rfl]
    show List.filter _ l = l
    exact List.filter_eq_self.2 fun y hy => by
      rw [decide_eq_false (fun e => h (by rw [← e]; exact List.mem_map_of_mem hy))]; rfl
  | a :: l, i + 1, hi, h => by
    have h2 := List.nodup_cons.1 h
    have hi2 : i < l.length := by simpa using hi
    have e := erase_one f l i hi2 h2.2
    show List.filter (fun y => !decide (f y = f l[i])) (a :: l) = a :: (l.take i ++ l.drop (i + 1))
    rw [List.filter_cons, decide_eq_false (fun e2 => h2.1 (by rw [e2]; exact List.mem_map_of_mem (List.getElem_mem hi2)))]
    show a :: _ = _
    rw [e]
def wosW (l : List Wn) (x : Id) : List Wn := l.filter fun y => !decide (y.1 = x)
theorem wos_les {h : Ho} {x : Id} (hr : rightH h = true) (hx : ¬ wtI h x < 0) : wosW h.ws x = (lesH h x).ws := by
  rcases wt_cases h x with ⟨h1, _⟩ | ⟨k, h1, h2, h3, _⟩
  · omega
  · have e := erase_one (fun y : Wn => y.1) h.ws k h1 (rh_iff.1 hr).wn
    unfold wosW lesH
    rw [h2]
    rw [wnD h1, h3] at e
    exact e
/-! what is handed out -/
def OwH (w : World) (N1 N2 N3 : TypeId) (h : Ho) : Asrt := fun v w' => ∃ a b c, v = .agg (hoArr h.no h.gt a b c) ∧ St w [.sl a N1 33 h.ws.length (wnCells h.ws), .sl b N2 34 h.hs.length (hnCells h.hs), .sl c N3 1 h.bx.length (txC h.bx)] w'
def ClH (w : World) (N1 N2 : TypeId) (vi : Value) (h : Ho) : Asrt := fun v w' => ∃ a b, v = .agg (hoArr h.no h.gt a b vi) ∧ St w [.sl a N1 33 h.ws.length (wnCells h.ws), .sl b N2 34 h.hs.length (hnCells h.hs)] w'
section
variable {w w' : World} {vw vh vi : Value} {h : Ho} {N1 N2 N3 : TypeId}
theorem hop_bad {H : Ho} {E e : Int} (hH : H = zHo) (hE : E = e) (s : St w [] w') : HoP w vw vh vi h H E (.tuple #[.agg (hoArr 0 0 nilV nilV nilV), .int .i64 e]) w' := by
  subst hH; subst hE
  exact ⟨nilV, nilV, nilV, [], rfl, s.grp0 (S := fun w9 => RdH w9 vw vh vi h → RdH w9 nilV nilV nilV zHo) fun w9 _ => rdH_z w9⟩
theorem hop_own {n g : Int} {H : Ho} {E e : Int} {a b c : Value} (hE : E = e) (hn : H.no = n) (hg : H.gt = g) (s : St w [.sl a N1 33 H.ws.length (wnCells H.ws), .sl b N2 34 H.hs.length (hnCells H.hs), .sl c N3 1 H.bx.length (txC H.bx)] w') : HoP w vw vh vi h H E (.tuple #[.agg (hoArr n g a b c), .int .i64 e]) w' := by
  subst hE; subst hn; subst hg
  have s := s.grp0 (S := fun _ => True) (fun _ => trivial)
  obtain ⟨k1, s⟩ := (s.sel [1, 0, 2, 3] rfl (by decide)).grp1 (S' := fun w9 => RdZ w9 a 33 H.ws.length (wnCells H.ws)) (fun w9 h9 _ => h9)
  obtain ⟨k2, s⟩ := (s.sel [1, 0, 2] rfl (by decide)).grp1 (S' := fun w9 => RdZ w9 a 33 H.ws.length (wnCells H.ws) ∧ RdZ w9 b 34 H.hs.length (hnCells H.hs)) (fun w9 h9 h8 => ⟨h8, h9⟩)
  obtain ⟨k3, s⟩ := (s.sel [1, 0] rfl (by decide)).grp1 (S' := fun w9 => RdH w9 vw vh vi h → RdH w9 a b c H) (fun w9 h9 h8 _ => ⟨h8.1, h8.2, h9⟩)
  exact ⟨a, b, c, k3, rfl, s⟩
end
def hoW : Value → Value
  | .agg a => pkO (a[2]?)
  | _ => .slice none 0 0
def hoN : Value → Value
  | .agg a => pkO (a[3]?)
  | _ => .slice none 0 0
theorem hoW_of {w : World} {v a b : Value} {sz n : Nat} {xs : List Value} (h : RdZ w v sz n xs) (k g : Int) : hoW (.agg (hoArr k g v a b)) = v := by
  obtain ⟨p, c, rfl⟩ := h.len
  rfl
theorem hoN_of {w : World} {v a b : Value} {sz n : Nat} {xs : List Value} (h : RdZ w v sz n xs) (k g : Int) : hoN (.agg (hoArr k g a v b)) = v := by
  obtain ⟨p, c, rfl⟩ := h.len
  rfl
theorem hoW_one (v : Value) : (hoW v).oneCell' = true := by
  unfold hoW
  split
  · exact pkO_one _
  · rfl
theorem hoN_one (v : Value) : (hoN v).oneCell' = true := by
  unfold hoN
  split
  · exact pkO_one _
  · rfl
/-- .. and as one that is only read -/
theorem own_rd {w w' : World} {a b c : Value} {h : Ho} {N1 N2 N3 : TypeId} {B : List Own} (s : St w (.sl a N1 33 h.ws.length (wnCells h.ws) :: .sl b N2 34 h.hs.length (hnCells h.hs) :: .sl c N3 1 h.bx.length (txC h.bx) :: B) w') : ∃ ks, St w (.grp ks (fun w9 => RdH w9 a b c h) :: B) w' := by
  have s := s.grp0 (S := fun _ => True) (fun _ => trivial)
  obtain ⟨k1, s⟩ := (s.perm (List.Perm.swap ..)).grp1 (S' := fun w9 => RdZ w9 a 33 h.ws.length (wnCells h.ws)) (fun w9 h9 _ => h9)
  obtain ⟨k2, s⟩ := (s.perm (List.Perm.swap ..)).grp1 (S' := fun w9 => RdZ w9 a 33 h.ws.length (wnCells h.ws) ∧ RdZ w9 b 34 h.hs.length (hnCells h.hs)) (fun w9 h9 h8 => ⟨h8, h9⟩)
  exact (s.perm (List.Perm.swap ..)).grp1 (S' := fun w9 => RdH w9 a b c h) (fun w9 h9 h8 => ⟨h8.1, h8.2, h9⟩)
theorem lg_any {l : List ByteArray} {r : Int} (hr : (r = -1 ∧ ∀ x ∈ l, lgS x = false) ∨ ∃ k : Nat, k < l.length ∧ r = (k : Int) ∧ lgS (l.getD k ByteArray.empty) = true) : decide (r ≥ 0) = l.any lgS := by
  rcases hr with ⟨rfl, h⟩ | ⟨k, hk, rfl, h⟩
  · rw [List.any_eq_false.2 fun x hx => by rw [h x hx]; decide]; rfl
  · rw [List.any_eq_true.2 ⟨_, st_mem hk, h⟩, decide_eq_true (by omega)]
theorem rh_new (n g : Int) : rightH ⟨n, g, [], [], []⟩ = (inb n 0 15 && inb g 0 15) := by
  rw [← inR_eq]
  show (inb n 0 15 && (inb g 0 15 && true)) = _
  rw [Bool.and_true]
theorem hop_new {w w' : World} {n g : Int} (s : St w [] w') : HoP w nilV nilV nilV zHo ⟨n, g, [], [], []⟩ 0 (.tuple #[.agg (hoArr n g nilV nilV nilV), .int .i64 0]) w' :=
  ⟨nilV, nilV, nilV, [], rfl, s.grp0 (S := fun w9 => RdH w9 nilV nilV nilV zHo → RdH w9 nilV nilV nilV ⟨n, g, [], [], []⟩) fun w9 _ => rdH_nil w9 n g⟩
section
variable {w w' : World} {vw vh vi vl : Value} {h : Ho} {now : Int} {N : TypeId} {l : List Ent} {d : ByteArray}
theorem akp_bad (hE : akE h now = 1 ∧ akL h now = []) (s : St w [] w') : AkP w vw vh vi h (akL h now) (akE h now) (.tuple #[nilV, .int .i64 1]) w' := by
  rw [hE.1, hE.2]
  exact ⟨nilV, [], [], rfl, rfl, s.grp0 (S := fun w9 => RdH w9 vw vh vi h → RdS w9 nilV []) fun w9 _ => rdS_nil w9⟩
theorem akp_ok {u : Value} (hE : akE h now = 0 ∧ akL h now = askM9 h now) (s : St w [.sl u N 139 (akK h now h.ws.length).length (seCells (akK h now h.ws.length))] w') : AkP w vw vh vi h (akL h now) (akE h now) (.tuple #[u, .int .i64 0]) w' := by
  rw [hE.1, hE.2]
  obtain ⟨kn, s⟩ := ((s.grp0 (S := fun _ => True) (fun _ => trivial)).perm (List.Perm.swap ..)).grp1 (S' := fun w9 => RdH w9 vw vh vi h → RdS w9 u (akK h now h.ws.length)) (fun w9 h9 _ _ => ⟨h9, akK_rd _ _ _ _⟩)
  exact ⟨u, _, kn, rfl, akK_end, s⟩
theorem sdp_bad {e : Int} (hE : sdE h l d now = e ∧ sdX h l d now = zSe) (s : St w [] w') : SdP w vl l (sdX h l d now) (sdE h l d now) (.tuple #[.agg (seArr 0 mZ nilV zTg), .int .i64 e]) w' := by
  rw [hE.1, hE.2]
  exact ⟨nilV, [], rfl, s.grp0 (S := fun w9 => RdE w9 vl l → RdE w9 nilV zSe.2.1.l) fun w9 _ => re_nil w9⟩
theorem sdp_ok {u : Value} (hE : sdE h l d now = 0 ∧ sdX h l d now = sndM9 h l d now) (s : St w [.sl u N 34 l.length (eCells l)] w') : SdP w vl l (sdX h l d now) (sdE h l d now) (.tuple #[.agg (seArr (sndT h l now) (datG l d) u zTg), .int .i64 0]) w' := by
  rw [hE.1, hE.2]
  obtain ⟨kn, s⟩ := ((s.grp0 (S := fun _ => True) (fun _ => trivial)).perm (List.Perm.swap ..)).grp1 (S' := fun w9 => RdE w9 vl l → RdE w9 u (sndM9 h l d now).2.1.l) (fun w9 h9 _ _ => h9)
  exact ⟨u, kn, rfl, s⟩
end
/-! what a message does to it -/
def kqE (h : Ho) (m : Mg) : Int := bif !decide (m.l.getD 0 (0, 0#256, 0) = selfH h) then 1 else bif decide (h.bx.length = 32) then 8 else 0
def kqB (h : Ho) (m : Mg) : List ByteArray := bif decide (kqE h m = 0) then h.bx ++ [m.d] else h.bx
def ecE (h : Ho) (m : Mg) : Int := bif !decide (m.t = selfH h) then 1 else bif decide (wtI h m.i < 0) then 6 else 0
def ecL (h : Ho) (fr : Int) (m : Mg) : List Se := bif decide (ecE h m = 0) then [(fr, echG h m, zTg)] else []
def hdE (h : Ho) (m : Mg) : Int := bif decide (wtI h m.i < 0) then 6 else 0
def lnE (m : Mg) : Int := bif inb m.n 0 15 then 0 else 1
def lnL (l : List Hn) (m : Mg) (now : Int) : List Hn := bif decide (lnE m = 0) then lrnL l m.i m.n now else l
def tkH (h : Ho) (fr : Int) (m : Mg) (now : Int) : Ho := bif decide ((kndQ h fr m now).e = 0) then (kndQ h fr m now).h else h
theorem kw_1 {h : Ho} {m : Mg} (e : decide (m.l.getD 0 (0, 0#256, 0) = selfH h) = false) : kqE h m = 1 ∧ kqB h m = h.bx := by
  have a : kqE h m = 1 := by unfold kqE; rw [e]; rfl
  exact ⟨a, by unfold kqB; rw [a]; rfl⟩
theorem kw_2 {h : Ho} {m : Mg} (e : decide (m.l.getD 0 (0, 0#256, 0) = selfH h) = true) (f : decide (h.bx.length = 32) = true) : kqE h m = 8 ∧ kqB h m = h.bx := by
  have a : kqE h m = 8 := by unfold kqE; rw [e, f]; rfl
  exact ⟨a, by unfold kqB; rw [a]; rfl⟩
theorem kw_3 {h : Ho} {m : Mg} (e : decide (m.l.getD 0 (0, 0#256, 0) = selfH h) = true) (f : decide (h.bx.length = 32) = false) : kqE h m = 0 ∧ kqB h m = h.bx ++ [m.d] := by
  have a : kqE h m = 0 := by unfold kqE; rw [e, f]; rfl
  exact ⟨a, by unfold kqB; rw [a]; rfl⟩
theorem ec_1 {h : Ho} {fr : Int} {m : Mg} (e : decide (m.t = selfH h) = false) : ecE h m = 1 ∧ ecL h fr m = [] := by
  have a : ecE h m = 1 := by unfold ecE; rw [e]; rfl
  exact ⟨a, by unfold ecL; rw [a]; rfl⟩
theorem ec_2 {h : Ho} {fr : Int} {m : Mg} (e : decide (m.t = selfH h) = true) (f : decide (wtI h m.i < 0) = true) : ecE h m = 6 ∧ ecL h fr m = [] := by
  have a : ecE h m = 6 := by unfold ecE; rw [e, f]; rfl
  exact ⟨a, by unfold ecL; rw [a]; rfl⟩
theorem ec_3 {h : Ho} {fr : Int} {m : Mg} (e : decide (m.t = selfH h) = true) (f : decide (wtI h m.i < 0) = false) : ecE h m = 0 ∧ ecL h fr m = [(fr, echG h m, zTg)] := by
  have a : ecE h m = 0 := by unfold ecE; rw [e, f]; rfl
  exact ⟨a, by unfold ecL; rw [a]; rfl⟩
theorem ln_1 {m : Mg} (e : inb m.n 0 15 = false) (l : List Hn) (now : Int) : lnE m = 1 ∧ lnL l m now = l := by
  have a : lnE m = 1 := by unfold lnE; rw [e]; rfl
  exact ⟨a, by unfold lnL; rw [a]; rfl⟩
theorem ln_2 {m : Mg} (e : inb m.n 0 15 = true) (l : List Hn) (now : Int) : lnE m = 0 ∧ lnL l m now = lrnL l m.i m.n now := by
  have a : lnE m = 0 := by unfold lnE; rw [e]; rfl
  exact ⟨a, by unfold lnL; rw [a]; rfl⟩
section
variable {h : Ho} {fr : Int} {m : Mg} {now : Int}
theorem tk_1 (k1 : decide (m.k = 1) = true) : (kndQ h fr m now).e = kqE h m ∧ (kndQ h fr m now).l = [] ∧ tkH h fr m now = ⟨h.no, h.gt, h.ws, h.hs, kqB h m⟩ := by
  unfold tkH
  rw [kq_1 k1]
  cases e : decide (m.l.getD 0 (0, 0#256, 0) = selfH h) with
  | false => rw [dq_1 e, (kw_1 e).1, (kw_1 e).2]; exact ⟨rfl, rfl, rfl⟩
  | true =>
    cases f : decide (h.bx.length = 32) with
    | true => rw [dq_2 e f, (kw_2 e f).1, (kw_2 e f).2]; exact ⟨rfl, rfl, rfl⟩
    | false => rw [dq_3 e f, (kw_3 e f).1, (kw_3 e f).2]; exact ⟨rfl, rfl, rfl⟩
theorem tk_3 (k1 : decide (m.k = 1) = false) (k3 : decide (m.k = 3) = true) : (kndQ h fr m now).e = ecE h m ∧ (kndQ h fr m now).l = ecL h fr m ∧ tkH h fr m now = h := by
  unfold tkH
  rw [kq_3 k1 k3]
  cases e : decide (m.t = selfH h) with
  | false => rw [aq_1 e, (ec_1 (fr := fr) e).1, (ec_1 e).2]; exact ⟨rfl, rfl, rfl⟩
  | true =>
    cases f : decide (wtI h m.i < 0) with
    | true => rw [aq_2 e f, (ec_2 (fr := fr) e f).1, (ec_2 e f).2]; exact ⟨rfl, rfl, rfl⟩
    | false => rw [aq_3 e f, (ec_3 (fr := fr) e f).1, (ec_3 e f).2]; exact ⟨rfl, rfl, rfl⟩
theorem tk_5 (k1 : decide (m.k = 1) = false) (k3 : decide (m.k = 3) = false) (k5 : decide (m.k = 5) = true) : (kndQ h fr m now).e = hdE h m ∧ (kndQ h fr m now).l = [] ∧ tkH h fr m now = h := by
  unfold tkH
  rw [kq_5 k1 k3 k5]
  unfold hdE
  cases f : decide (wtI h m.i < 0) with
  | true => rw [kq_a f]; exact ⟨rfl, rfl, rfl⟩
  | false => rw [kq_b f]; exact ⟨rfl, rfl, rfl⟩
theorem mc_n (hM : rightM m = true) (k8 : decide (m.k = 8) = true) : inb m.n 0 15 = !decide (15 < m.n) := by
  have k8 := of_decide_eq_true k8
  unfold rightM at hM
  simp only [Bool.and_eq_true] at hM
  have h4 := hM.1.1.2
  unfold c4 at h4
  rw [show hasN m.k = true from by unfold hasN; rw [k8]; rfl] at h4
  have h4 : (decide (0 ≤ m.n) && decide (m.n ≤ 1099511627776)) = true := h4
  rw [Bool.and_eq_true, decide_eq_true_eq] at h4
  unfold inb
  rw [decide_eq_true h4.1, ← decide_not]
  show decide _ = _
  exact decide_eq_decide.2 (by omega)
theorem tk_8 (hM : rightM m = true) (k1 : decide (m.k = 1) = false) (k3 : decide (m.k = 3) = false) (k5 : decide (m.k = 5) = false) (k7 : decide (m.k = 7) = false) (k8 : decide (m.k = 8) = true) : (kndQ h fr m now).e = lnE m ∧ (kndQ h fr m now).l = [] ∧ tkH h fr m now = ⟨h.no, h.gt, h.ws, lnL h.hs m now, h.bx⟩ := by
  unfold tkH
  rw [kq_8 k1 k3 k5 k7 k8]
  have e := mc_n hM k8
  cases f : decide (15 < m.n) with
  | true => rw [f] at e; rw [lq_1 f, (ln_1 e h.hs now).1, (ln_1 e h.hs now).2]; exact ⟨rfl, rfl, rfl⟩
  | false => rw [f] at e; rw [lq_2 f, (ln_2 e h.hs now).1, (ln_2 e h.hs now).2]; exact ⟨rfl, rfl, rfl⟩
theorem tk_7 (k1 : decide (m.k = 1) = false) (k3 : decide (m.k = 3) = false) (k5 : decide (m.k = 5) = false) (k7 : decide (m.k = 7) = true) : (kndQ h fr m now).e = 0 ∧ (kndQ h fr m now).l = [] ∧ tkH h fr m now = fgtH h m.i := by
  unfold tkH
  rw [kq_7 k1 k3 k5 k7]; exact ⟨rfl, rfl, rfl⟩
theorem tk_9 (k1 : decide (m.k = 1) = false) (k3 : decide (m.k = 3) = false) (k5 : decide (m.k = 5) = false) (k7 : decide (m.k = 7) = false) (k8 : decide (m.k = 8) = false) : (kndQ h fr m now).e = 1 ∧ (kndQ h fr m now).l = [] ∧ tkH h fr m now = h := by
  unfold tkH
  rw [kq_9 k1 k3 k5 k7 k8]; exact ⟨rfl, rfl, rfl⟩
end
theorem sl_grp {w0 w : World} {v : Value} {e : TypeId} {sz n : Nat} {xs : List Value} {B : List Own} (s : St w0 (.sl v e sz n xs :: B) w) : ∃ ks, St w0 (.grp ks (fun w9 => RdZ w9 v sz n xs) :: B) w :=
  ((s.grp0 (S := fun _ => True) (fun _ => trivial)).perm (List.Perm.swap ..)).grp1 (S' := fun w9 => RdZ w9 v sz n xs) (fun _ h9 _ => h9)
theorem tl_grp {w0 w : World} {base : Nat} {v : Value} {e : TypeId} {sz n : Nat} {xs : List Value} {B : List Own} (s : St w0 (tlO base v e sz n xs :: B) w) : ∃ ks, St w0 (.grp ks (fun w9 => RdZ w9 v sz n xs) :: B) w :=
  ⟨_, St.weak (S := fun w9 => Tails w9 base e sz v n xs) s fun _ h9 => h9.rd⟩
section
variable {w w' : World} {h : Ho} {fr : Int} {m : Mg} {e : Int} {N : TypeId}
theorem ecp_no (hE : ecE h m = e ∧ ecL h fr m = []) (s : St w [] w') : ∃ ul K kk, (.tuple #[nilV, .int .i64 e] : Value) = .tuple #[ul, .int .i64 (ecE h m)] ∧ sends K = ecL h fr m ∧ St w [.grp kk (fun w9 => RdS w9 ul K)] w' := by
  rw [hE.1, hE.2]
  exact ⟨nilV, [], [], rfl, rfl, s.grp0 (S := fun w9 => RdS w9 nilV []) fun w9 => rdS_nil w9⟩
theorem ecp_ok {u : Value} (hE : ecE h m = 0 ∧ ecL h fr m = [(fr, echG h m, zTg)]) (s : St w [.sl u N 139 [(((fr, echG h m, zTg), nilV) : S2)].length (seCells [((fr, echG h m, zTg), nilV)])] w') : ∃ ul K kk, (.tuple #[u, .int .i64 0] : Value) = .tuple #[ul, .int .i64 (ecE h m)] ∧ sends K = ecL h fr m ∧ St w [.grp kk (fun w9 => RdS w9 ul K)] w' := by
  rw [hE.1, hE.2]
  obtain ⟨kn, s⟩ := ((s.grp0 (S := fun _ => True) (fun _ => trivial)).perm (List.Perm.swap ..)).grp1 (S' := fun w9 => RdS w9 u [((fr, echG h m, zTg), nilV)]) (fun w9 h9 _ => ⟨h9, rwS_snoc (rwS_nil _) (re_nil _)⟩)
  exact ⟨u, _, kn, rfl, rfl, s⟩
end
/-- what is left when a hint was learnt -/
def LnP (w0 : World) (bi : Nat) (N : TypeId) (B9 : List Own) (h : Ho) (vw vi : Value) (m : Mg) (now : Int) : Asrt := fun v w9 => v = .int .i64 (lnE m) ∧ ∃ u ks, St w0 (.grp ks (fun w' => RdZ w' u 34 (lnL h.hs m now).length (hnCells (lnL h.hs m now))) :: .blk bi (.cells (hoArr h.no h.gt vw u vi) N) :: B9) w9
theorem lnp_sl {w0 w : World} {bi : Nat} {N N2 : TypeId} {B9 : List Own} {h : Ho} {vw vi u : Value} {m : Mg} {now e : Int} {L : List Hn} (hE : lnE m = e) (hL : lnL h.hs m now = L) (s : St w0 (.sl u N2 34 L.length (hnCells L) :: .blk bi (.cells (hoArr h.no h.gt vw u vi) N) :: B9) w) : LnP w0 bi N B9 h vw vi m now (.int .i64 e) w := by
  subst hE; subst hL
  obtain ⟨ks, s⟩ := sl_grp s
  exact ⟨rfl, u, ks, s⟩
theorem lnp_tl {w0 w : World} {base bi : Nat} {N N2 : TypeId} {B9 : List Own} {h : Ho} {vw vi u : Value} {m : Mg} {now e : Int} {L : List Hn} (hE : lnE m = e) (hL : lnL h.hs m now = L) (s : St w0 (tlO base u N2 34 L.length (hnCells L) :: .blk bi (.cells (hoArr h.no h.gt vw u vi) N) :: B9) w) : LnP w0 bi N B9 h vw vi m now (.int .i64 e) w := by
  subst hE; subst hL
  obtain ⟨ks, s⟩ := tl_grp s
  exact ⟨rfl, u, ks, s⟩
theorem lst_full {l : List Hn} (h : l.length = 8) : lstL l = l.drop 1 := by unfold lstL; rw [if_neg (by omega)]
theorem lst_less {l : List Hn} (h : l.length < 8) : lstL l = l := by unfold lstL; rw [if_pos h]
theorem hnDrop (l : List Hn) : (hnCells l).drop (1 * 34) = hnCells (l.drop 1) := cells_drop _ 34 hnL_len 1 l
theorem fgt_8 {h : Ho} (x : Id) (hr : h.hs.length ≤ 8) : (fgtL h.hs x).length ≤ 8 := Nat.le_trans (fgt_le _ _) hr
/-- a message was taken: what is sent, and the host then, in the memory of the one who asked -/
def TkP (w0 : World) (bi : Nat) (N : TypeId) (B9 : List Own) (h : Ho) (fr : Int) (m : Mg) (now : Int) : Asrt := fun v w9 => ∃ uw uh ui ul K kk, v = .tuple #[ul, .int .i64 (kndQ h fr m now).e] ∧ sends K = (kndQ h fr m now).l ∧
  St w0 (.blk bi (.cells (hoArr (tkH h fr m now).no (tkH h fr m now).gt uw uh ui) N) :: .grp kk (fun w9 => RdH w9 uw uh ui (tkH h fr m now) ∧ RdS w9 ul K) :: B9) w9
section
variable {w0 w9 : World} {bi : Nat} {N N1 N2 N3 : TypeId} {B9 : List Own} {h H : Ho} {fr : Int} {m : Mg} {now E n g : Int} {a b c : Value}
theorem tkp_own (hE : (kndQ h fr m now).e = E) (hL : (kndQ h fr m now).l = []) (hH : tkH h fr m now = H) (hn : H.no = n) (hg : H.gt = g)
    (s : St w0 (.sl a N1 33 H.ws.length (wnCells H.ws) :: .sl b N2 34 H.hs.length (hnCells H.hs) :: .sl c N3 1 H.bx.length (txC H.bx) :: .blk bi (.cells (hoArr n g a b c) N) :: B9) w9) : TkP w0 bi N B9 h fr m now (.tuple #[nilV, .int .i64 E]) w9 := by
  subst hE; subst hH; subst hn; subst hg
  obtain ⟨ks, s⟩ := own_rd s
  exact ⟨a, b, c, nilV, [], ks, rfl, hL.symm, (St.weak s (S' := fun w9 => RdH w9 a b c (tkH h fr m now) ∧ RdS w9 nilV []) fun w9 h9 => ⟨h9, rdS_nil w9⟩).perm (List.Perm.swap ..)⟩
theorem tkp_hnt {ks : List Nat} (hE : (kndQ h fr m now).e = E) (hL : (kndQ h fr m now).l = []) (hH : tkH h fr m now = H) (hn : H.no = n) (hg : H.gt = g)
    (s : St w0 (.sl a N1 33 H.ws.length (wnCells H.ws) :: .sl c N3 1 H.bx.length (txC H.bx) :: .grp ks (fun w9 => RdZ w9 b 34 H.hs.length (hnCells H.hs)) :: .blk bi (.cells (hoArr n g a b c) N) :: B9) w9) : TkP w0 bi N B9 h fr m now (.tuple #[nilV, .int .i64 E]) w9 := by
  subst hE; subst hH; subst hn; subst hg
  obtain ⟨k1, s⟩ := (s.bring 1 rfl).perm (List.Perm.refl _) |> fun s => (s.bring 2 rfl |> fun s => (s.bring 1 rfl).grp1 (S' := fun w9 => RdZ w9 b 34 (tkH h fr m now).hs.length (hnCells (tkH h fr m now).hs) ∧ RdZ w9 c 1 (tkH h fr m now).bx.length (txC (tkH h fr m now).bx)) (fun w9 h9 h8 => ⟨h8, h9⟩))
  obtain ⟨k2, s⟩ := (s.bring 1 rfl).grp1 (S' := fun w9 => RdH w9 a b c (tkH h fr m now) ∧ RdS w9 nilV []) (fun w9 h9 h8 => ⟨⟨h9, h8.1, h8.2⟩, rdS_nil w9⟩)
  exact ⟨a, b, c, nilV, [], k2, rfl, hL.symm, s.perm (List.Perm.swap ..)⟩
theorem tkp_snd {ul : Value} {K : List S2} {ks : List Nat} (hE : (kndQ h fr m now).e = E) (hL : (kndQ h fr m now).l = sends K) (hH : tkH h fr m now = H) (hn : H.no = n) (hg : H.gt = g)
    (s : St w0 (.grp ks (fun w9 => RdS w9 ul K) :: .sl a N1 33 H.ws.length (wnCells H.ws) :: .sl b N2 34 H.hs.length (hnCells H.hs) :: .sl c N3 1 H.bx.length (txC H.bx) :: .blk bi (.cells (hoArr n g a b c) N) :: B9) w9) : TkP w0 bi N B9 h fr m now (.tuple #[ul, .int .i64 E]) w9 := by
  subst hE; subst hH; subst hn; subst hg
  obtain ⟨k1, s⟩ := own_rd ((s.bring 3 rfl).bring 3 rfl |> fun s => s.bring 3 rfl)
  exact ⟨a, b, c, ul, K, _, rfl, hL.symm, (St.merge s (S := fun w9 => RdH w9 a b c (tkH h fr m now) ∧ RdS w9 ul K) fun w9 h1 h2 => ⟨h1, h2⟩).perm (List.Perm.swap ..)⟩
end
theorem tk_b9 (h : Ho) (fr : Int) (m : Mg) (now : Int) (hb : h.ws.length ≤ 900 ∧ h.hs.length ≤ 900 ∧ h.bx.length ≤ 900) (hB : hnqB h fr m now = true) : B9 (tkH h fr m now) := by
  unfold tkH
  cases decide ((kndQ h fr m now).e = 0)
  · exact ⟨Nat.le_trans hb.1 (by decide), Nat.le_trans hb.2.1 (by decide), Nat.le_trans hb.2.2 (by decide)⟩
  · show B9 (kndQ h fr m now).h
    rw [← hq_ok hB]
    exact b9_hq ⟨Nat.le_trans hb.1 (by decide), Nat.le_trans hb.2.1 (by decide), Nat.le_trans hb.2.2 (by decide)⟩
section
variable {w w' : World} {vw vh vi vs : Value} {h : Ho} {l : List Ent} {fr : Int} {m : Mg} {now e : Int} {N1 N2 : TypeId}
theorem hqp_bad (hB : hnqB h fr m now = false) (s : St w [] w') : HqP w vw vh vi vs h l (hnqH h fr m now) (.tuple #[.agg (hoArr 0 0 nilV nilV nilV), nilV, .int .i64 1]) w' := by
  rw [hq_bad hB]
  exact ⟨nilV, nilV, nilV, nilV, [], [], rfl, rfl, s.grp0 (S := fun w9 => RdH w9 vw vh vi h → RdE w9 vs l → RdH w9 nilV nilV nilV zHo ∧ RdS w9 nilV []) fun w9 _ _ => ⟨rdH_z w9, rdS_nil w9⟩⟩
theorem hqp_err (hB : hnqB h fr m now = true) (he : ¬ (kndQ h fr m now).e = 0) (s : St w [] w') : HqP w vw vh vi vs h l (hnqH h fr m now) (.tuple #[.agg (hoArr 0 0 nilV nilV nilV), nilV, .int .i64 (kndQ h fr m now).e]) w' := by
  rw [← hq_ok hB] at he ⊢
  obtain ⟨g1, g2⟩ := hq_no he
  refine ⟨nilV, nilV, nilV, nilV, [], [], by rw [g2]; rfl, g1.symm, s.grp0 (S := fun w9 => RdH w9 vw vh vi h → RdE w9 vs l → RdH w9 nilV nilV nilV (hnqH h fr m now).h ∧ RdS w9 nilV []) fun w9 _ _ => ?_⟩
  rw [g2]
  exact ⟨rdH_z w9, rdS_nil w9⟩
theorem hqp_ok {uw uh ui a b ul : Value} {K : List S2} {ks : List Nat} (hB : hnqB h fr m now = true) (he : (kndQ h fr m now).e = 0) (hK : sends K = (kndQ h fr m now).l)
    (s : St w [.sl a N1 33 (tkH h fr m now).ws.length (wnCells (tkH h fr m now).ws), .sl b N2 34 (tkH h fr m now).hs.length (hnCells (tkH h fr m now).hs), .grp ks (fun w9 => RdH w9 uw uh ui (tkH h fr m now) ∧ RdS w9 ul K)] w') :
    HqP w vw vh vi vs h l (hnqH h fr m now) (.tuple #[.agg (hoArr (tkH h fr m now).no (tkH h fr m now).gt a b ui), ul, .int .i64 0]) w' := by
  have hh : (hnqH h fr m now).h = tkH h fr m now := by unfold tkH; rw [hq_ok hB, decide_eq_true he]; rfl
  obtain ⟨k1, s⟩ := (s.sel [0, 2, 1] rfl (by decide)).grp1 (S' := fun w9 => RdZ w9 a 33 (tkH h fr m now).ws.length (wnCells (tkH h fr m now).ws) ∧ RdH w9 uw uh ui (tkH h fr m now) ∧ RdS w9 ul K) (fun w9 h9 h8 => ⟨h9, h8⟩)
  obtain ⟨k2, s⟩ := (s.sel [1, 0] rfl (by decide)).grp1 (S' := fun w9 => RdH w9 vw vh vi h → RdE w9 vs l → RdH w9 a b ui (hnqH h fr m now).h ∧ RdS w9 ul K) (fun w9 h9 h8 _ _ => ⟨by rw [hh]; exact ⟨h8.1, h9, h8.2.1.2.2⟩, h8.2.2⟩)
  refine ⟨a, b, ui, ul, K, k2, ?_, ?_, s⟩
  · rw [hh, hq_ok hB, he]
  · rw [hq_ok hB]; exact hK
end
end Go.Proofs.Ythjkhnhiciamaaa
