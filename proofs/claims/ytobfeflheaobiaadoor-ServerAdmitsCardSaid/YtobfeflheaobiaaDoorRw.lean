/- Packets and what becomes of them: which may be, which are the same, what goes on and by which triggers, of other data and more hops; packets that come in; no Go in it. -/
import Derived.Test.YtobfeflheaobiaaDoorTb
set_option linter.unusedVariables false
set_option linter.unusedSimpArgs false
set_option linter.unusedSectionVars false
namespace Go.Proofs.YtobfeflheaobiaaDoor
open Go.RowKit
/-! ### packets: a stack, hops, data; what becomes of them -/
abbrev Pk := List Ent × Int × ByteArray
abbrev RdE (w : World) (v : Value) (l : List Ent) : Prop := RdZ w v 34 l.length (eCells l)
def pkL (v : Value) (h : Int) (d : ByteArray) : List Value := [v, .int .i64 h, .string d]
def pkArr (v : Value) (h : Int) (d : ByteArray) : Array Value := (pkL v h d).toArray
theorem pkArr_size (v : Value) (h : Int) (d : ByteArray) : (pkArr v h d).size = 3 := rfl
theorem pkArr_ones {v : Value} (h : Int) (d : ByteArray) (hv : v.oneCell' = true) : ∀ u ∈ (pkArr v h d).toList, u.oneCell' = true := fun u hu => by
  have hu : u ∈ pkL v h d := hu
  unfold pkL at hu
  simp only [List.mem_cons, List.not_mem_nil, or_false] at hu
  rcases hu with rfl | rfl | rfl
  · exact hv
  · rfl
  · rfl
structure Ot where
  k : Int
  h : Int
  p : Pk
  t : Tg
  y : Int
deriving DecidableEq
abbrev O2 := Ot × Value
def zOt : Ot := ⟨0, 0, ([], 0, ByteArray.empty), zTg, 0⟩
def zO2 : O2 := (zOt, nilV)
def otL (k h : Int) (v : Value) (n : Int) (d : ByteArray) (t : Tg) (y : Int) : List Value := .int .i64 k :: .int .i64 h :: (pkL v n d ++ (tgL t ++ [.int .i64 y]))
def otArr (k h : Int) (v : Value) (n : Int) (d : ByteArray) (t : Tg) (y : Int) : Array Value := (otL k h v n d t y).toArray
theorem otL_len (k h : Int) (v : Value) (n : Int) (d : ByteArray) (t : Tg) (y : Int) : (otL k h v n d t y).length = 73 := by simp [otL, pkL, tgL_len]
theorem otArr_size (k h : Int) (v : Value) (n : Int) (d : ByteArray) (t : Tg) (y : Int) : (otArr k h v n d t y).size = 73 := by simp [otArr, otL_len]
theorem otArr_ones {v : Value} (k h n : Int) (d : ByteArray) (t : Tg) (y : Int) (hv : v.oneCell' = true) : ∀ u ∈ (otArr k h v n d t y).toList, u.oneCell' = true := fun u hu => by
  have hu : u ∈ otL k h v n d t y := hu
  unfold otL at hu
  rcases List.mem_cons.1 hu with rfl | hu
  · rfl
  · rcases List.mem_cons.1 hu with rfl | hu
    · rfl
    · rcases List.mem_append.1 hu with hu | hu
      · exact pkArr_ones n d hv u hu
      · rcases List.mem_append.1 hu with hu | hu
        · exact tgL_ones t u hu
        · rw [List.mem_singleton.1 hu]; rfl
section
variable (k h : Int) (v : Value) (n : Int) (d : ByteArray) (t : Tg) (y : Int)
theorem ot_k : (otArr k h v n d t y)[0]? = some (.int .i64 k) := rfl
theorem ot_h : (otArr k h v n d t y)[1]? = some (.int .i64 h) := rfl
theorem ot_v : (otArr k h v n d t y)[2]? = some v := rfl
theorem ot_p : (otArr k h v n d t y).extract 2 (2 + 3) = pkArr v n d := ext_lt9 _ _ _ _ rfl
theorem ot_t : (otArr k h v n d t y).extract 5 (5 + 67) = tgArr t := ext_lt9 _ _ _ _ (by
  show (tgL t ++ [Value.int .i64 y]).take 67 = tgL t
  rw [List.take_left' (tgL_len t)])
theorem ot_y : (otArr k h v n d t y)[72]? = some (.int .i64 y) := by
  unfold otArr
  rw [List.getElem?_toArray]
  show (tgL t ++ [Value.int .i64 y])[67]? = _
  rw [List.getElem?_append_right (by rw [tgL_len]; exact Nat.le_refl _), tgL_len]; rfl
theorem pk_v : (pkArr v n d)[0]? = some v := rfl
theorem pk_n : (pkArr v n d)[1]? = some (.int .i64 n) := rfl
theorem pk_d : (pkArr v n d)[2]? = some (.string d) := rfl
end
def pkZ : List (List Value) := [[.slice none 0 0], [.int .i64 0], [.string ByteArray.empty]]
def otZ : List (List Value) := [[.int .i64 0], [.int .i64 0], [.slice none 0 0, .int .i64 0, .string ByteArray.empty], tgZ.flatten, [.int .i64 0]]
theorem tgL_zero : tgL zTg = tgZ.flatten := by
  have := congrArg Array.toList tg_zero
  exact this
theorem ot_zero : otArr 0 0 nilV 0 ByteArray.empty zTg 0 = otZ.flatten.toArray := by
  unfold otArr otL
  rw [tgL_zero]; rfl
def ouL (x : O2) : List Value := otL x.1.k x.1.h x.2 x.1.p.2.1 x.1.p.2.2 x.1.t x.1.y
theorem ouL_len (x : O2) : (ouL x).length = 73 := otL_len ..
def ouCells (l : List O2) : List Value := l.flatMap ouL
theorem ouCells_app (l r : List O2) : ouCells (l ++ r) = ouCells l ++ ouCells r := List.flatMap_append
theorem ouD {l : List O2} {j : Nat} (hj : j < l.length) : l[j] = l.getD j zO2 := by
  rw [List.getD_eq_getElem?_getD, List.getElem?_eq_getElem hj]; rfl
theorem ou_el (l : List O2) (j : Nat) (hj : j < l.length) : (((ouCells l).drop (j * 73)).take 73).toArray = otArr (l.getD j zO2).1.k (l.getD j zO2).1.h (l.getD j zO2).2 (l.getD j zO2).1.p.2.1 (l.getD j zO2).1.p.2.2 (l.getD j zO2).1.t (l.getD j zO2).1.y := by
  unfold ouCells
  rw [cells_el _ 73 ouL_len l j hj, ouD hj]; rfl
theorem ou_mem {l : List O2} {j : Nat} (hj : j < l.length) : l.getD j zO2 ∈ l := by rw [← ouD hj]; exact List.getElem_mem hj
theorem one_ou (x : O2) : ([Value.agg (otArr x.1.k x.1.h x.2 x.1.p.2.1 x.1.p.2.2 x.1.t x.1.y)].flatMap fun v => v.cells.toList) = ouL x := by simp [Value.cells, otArr, ouL]
theorem ou_snoc (l : List O2) (x : O2) : ouCells l ++ ouL x = ouCells (l ++ [x]) := by rw [ouCells_app]; simp [ouCells]
theorem ou_sz (x : O2) : ∀ v ∈ ([.agg (otArr x.1.k x.1.h x.2 x.1.p.2.1 x.1.p.2.2 x.1.t x.1.y)] : List Value), v.cells.size = 73 := fun v hv => by
  rw [List.mem_singleton] at hv; subst hv; exact otArr_size ..
def RwU (K : List O2) (w : World) : Prop := ∀ x ∈ K, RdE w x.2 x.1.p.1
def RdU (w : World) (v : Value) (K : List O2) : Prop := RdZ w v 73 K.length (ouCells K) ∧ RwU K w
def outs (K : List O2) : List Ot := K.map (·.1)
/-! ### the model -/
def rightP (p : Pk) : Bool := rightE p.1 && (decide (0 ≤ p.2.1) && (decide (p.2.1 ≤ 64) && decide (p.2.2.size ≤ 64)))
def onO (p : Pk) (b : Tg) (f : List Ent) : Ot := ⟨2, 0, (f ++ p.1.drop 1, p.2.1 - 1, p.2.2), b, 0⟩
def fstE (p : Pk) : Ent := p.1.getD 0 (0, 0#256, 0)
def hostO (p : Pk) : Ot := ⟨1, (fstE p).2.2, p, zTg, 0⟩
def deadO (y : Int) : Ot := ⟨3, 0, ([], 0, ByteArray.empty), zTg, y⟩
def viaO (p : Pk) (x : Tg) : Ot := onO p x [x.2.1]
noncomputable def stepO (t : List Tg) (p : Pk) : List Ot :=
  bif decide ((fstE p).1 = 2) then [hostO p] else bif decide (p.2.1 = 0) then [deadO 9] else
    bif decide ((mtF t (fstE p).2.1).length = 0) then (bif decide (1 < p.1.length) then [onO p zTg []] else [deadO 6]) else (mtF t (fstE p).2.1).map (viaO p)
def rwE (t : List Tg) (p : Pk) : Int := bif rightP p && rightT t then 0 else 1
noncomputable def rwL (t : List Tg) (p : Pk) : List Ot := bif rightP p && rightT t then stepO t p else []
theorem rightP_iff {p : Pk} : rightP p = true ↔ (0 < p.1.length ∧ p.1.length ≤ 4 ∧ ∀ e ∈ p.1, isE e = true) ∧ 0 ≤ p.2.1 ∧ p.2.1 ≤ 64 ∧ p.2.2.size ≤ 64 := by
  unfold rightP
  rw [Bool.and_eq_true, Bool.and_eq_true, Bool.and_eq_true, rightE_iff, decide_eq_true_eq, decide_eq_true_eq, decide_eq_true_eq]
end Go.Proofs.YtobfeflheaobiaaDoor

namespace Go.Proofs.YtobfeflheaobiaaDoor
open Go.RowKit
/-! ### what the walks want of packets -/
section
variable {P : Program} {ρ : Operand → Value} {d : Option Tmp} {ty : TypeId} {pos : String} {af : Array Edge} {g : Option (Nat × Bool)} {x y z : Operand} {t : TypeId}
theorem ru_build_pk3 {v : Value} {n : Int} {s : ByteArray} (S : Stt P t pkZ) (hv : v.cells.size = 1) (hc : v.cells.toList = [v]) (hx : ρ x = v) (hy : ρ y = .int .i64 n) (hz : ρ z = .string s) : RunsTo P ⟨d, .build t #[(0, x), (1, y), (2, z)], ty, pos, af, g⟩ ρ (.agg (pkArr v n s)) := by
  have := ru_build_st (P := P) (ρ := ρ) (d := d) (ty := ty) (pos := pos) (af := af) (g := g) (parts := #[(0, x), (1, y), (2, z)]) S [(0, v), (1, .int .i64 n), (2, .string s)] (by simp [hx, hy, hz]) (fun i u hm => by
    simp only [List.mem_cons, Prod.mk.injEq, List.not_mem_nil, or_false] at hm
    rcases hm with ⟨rfl, rfl⟩ | ⟨rfl, rfl⟩ | ⟨rfl, rfl⟩
    · exact ⟨_, rfl, hv⟩
    · exact ⟨_, rfl, rfl⟩
    · exact ⟨_, rfl, rfl⟩) (D := pkL v n s) (by
      show v.cells.toList ++ ([Value.int .i64 n] ++ ([Value.string s] ++ [])) = _
      rw [hc]; rfl)
  exact this
/-- it goes on -/
theorem ru_build_ot_on {k : Int} {v : Value} {n : Int} {s : ByteArray} {b : Tg} (S : Stt P t otZ) (_hc : v.cells.toList = [v]) (hx : ρ x = .int .i64 k) (hy : ρ y = .agg (pkArr v n s)) (hz : ρ z = .agg (tgArr b)) : RunsTo P ⟨d, .build t #[(0, x), (2, y), (3, z)], ty, pos, af, g⟩ ρ (.agg (otArr k 0 v n s b 0)) := by
  have := ru_build_st (P := P) (ρ := ρ) (d := d) (ty := ty) (pos := pos) (af := af) (g := g) (parts := #[(0, x), (2, y), (3, z)]) S [(0, .int .i64 k), (2, .agg (pkArr v n s)), (3, .agg (tgArr b))] (by simp [hx, hy, hz]) (fun i u hm => by
    simp only [List.mem_cons, Prod.mk.injEq, List.not_mem_nil, or_false] at hm
    rcases hm with ⟨rfl, rfl⟩ | ⟨rfl, rfl⟩ | ⟨rfl, rfl⟩
    · exact ⟨_, rfl, rfl⟩
    · exact ⟨_, rfl, rfl⟩
    · exact ⟨_, rfl, by show (tgArr b).size = _; rw [tgArr_size, ← tgL_zero, tgL_len]⟩) (D := otL k 0 v n s b 0) (by
      show [Value.int .i64 k] ++ ([Value.int .i64 0] ++ ((pkArr v n s).toList ++ ((tgArr b).toList ++ ([Value.int .i64 0] ++ [])))) = _
      rfl)
  exact this
theorem ru_build_ot_host {k h : Int} {v : Value} {n : Int} {s : ByteArray} (S : Stt P t otZ) (hx : ρ x = .int .i64 k) (hy : ρ y = .int .i64 h) (hz : ρ z = .agg (pkArr v n s)) : RunsTo P ⟨d, .build t #[(0, x), (1, y), (2, z)], ty, pos, af, g⟩ ρ (.agg (otArr k h v n s zTg 0)) := by
  have := ru_build_st (P := P) (ρ := ρ) (d := d) (ty := ty) (pos := pos) (af := af) (g := g) (parts := #[(0, x), (1, y), (2, z)]) S [(0, .int .i64 k), (1, .int .i64 h), (2, .agg (pkArr v n s))] (by simp [hx, hy, hz]) (fun i u hm => by
    simp only [List.mem_cons, Prod.mk.injEq, List.not_mem_nil, or_false] at hm
    rcases hm with ⟨rfl, rfl⟩ | ⟨rfl, rfl⟩ | ⟨rfl, rfl⟩
    · exact ⟨_, rfl, rfl⟩
    · exact ⟨_, rfl, rfl⟩
    · exact ⟨_, rfl, rfl⟩) (D := otL k h v n s zTg 0) (by
      show [Value.int .i64 k] ++ ([Value.int .i64 h] ++ ((pkArr v n s).toList ++ (tgZ.flatten ++ ([Value.int .i64 0] ++ [])))) = _
      rw [← tgL_zero]; rfl)
  exact this
theorem ru_build_ot_dead {k w : Int} (S : Stt P t otZ) (hx : ρ x = .int .i64 k) (hy : ρ y = .int .i64 w) : RunsTo P ⟨d, .build t #[(0, x), (4, y)], ty, pos, af, g⟩ ρ (.agg (otArr k 0 nilV 0 ByteArray.empty zTg w)) := by
  have := ru_build_st (P := P) (ρ := ρ) (d := d) (ty := ty) (pos := pos) (af := af) (g := g) (parts := #[(0, x), (4, y)]) S [(0, .int .i64 k), (4, .int .i64 w)] (by simp [hx, hy]) (fun i u hm => by
    simp only [List.mem_cons, Prod.mk.injEq, List.not_mem_nil, or_false] at hm
    rcases hm with ⟨rfl, rfl⟩ | ⟨rfl, rfl⟩
    · exact ⟨_, rfl, rfl⟩
    · exact ⟨_, rfl, rfl⟩) (D := otL k 0 nilV 0 ByteArray.empty zTg w) (by
      show [Value.int .i64 k] ++ ([Value.int .i64 0] ++ ([Value.slice none 0 0, .int .i64 0, .string ByteArray.empty] ++ (tgZ.flatten ++ ([Value.int .i64 w] ++ [])))) = _
      rw [← tgL_zero]; rfl)
  exact this
end
theorem ents_drop {w : World} {v : Value} {l : List Ent} (h : RdE w v l) (k : Nat) (hk : k ≤ l.length) : RdE w (dropV v 34 k) (l.drop k) := by
  have := h.drop k hk
  unfold eCells at this
  rw [cells_drop _ 34 (fun x => by rw [Array.length_toList, eArr_size])] at this
  rw [← List.length_drop] at this
  exact this
theorem e_elD (l : List Ent) (j : Nat) (hj : j < l.length) : (((eCells l).drop (j * 34)).take 34).toArray = eArr (l.getD j (0, 0#256, 0)) := by
  rw [e_el l j hj, List.getD_eq_getElem?_getD, List.getElem?_eq_getElem hj]; rfl
theorem e_one (e : Ent) : ([Value.agg (eArr e)].flatMap fun v => v.cells.toList) = (eArr e).toList := by simp [Value.cells]
theorem e_szE (e : Ent) : ∀ v ∈ ([.agg (eArr e)] : List Value), v.cells.size = 34 := fun v hv => by
  rw [List.mem_singleton] at hv; subst hv; exact eArr_size e
theorem re_nil (w : World) : RdE w nilV [] := ⟨rfl, .inl ⟨rfl, rfl⟩⟩
/-- a slice goes into a group -/
theorem rwU_snoc {w : World} {K : List O2} {x : Ot} {u : Value} (h : RwU K w) (hu : RdE w u x.p.1) : RwU (K ++ [(x, u)]) w := fun y hy => by
  rcases List.mem_append.1 hy with hy | hy
  · exact h y hy
  · rw [List.mem_singleton.1 hy]; exact hu
theorem rwU_nil (w : World) : RwU [] w := fun _ h => by cases h
theorem rwU_one {w : World} {x : Ot} {u : Value} (hu : RdE w u x.p.1) : RwU [(x, u)] w := fun y hy => by rw [List.mem_singleton.1 hy]; exact hu
theorem outs_snoc (K : List O2) (x : O2) : outs (K ++ [x]) = outs K ++ [x.1] := by unfold outs; rw [List.map_append]; rfl
theorem outs_len (K : List O2) : (outs K).length = K.length := List.length_map ..
/-! what becomes of a packet -/
theorem step_host {t : List Tg} {p : Pk} (h : decide ((fstE p).1 = 2) = true) : stepO t p = [hostO p] := by unfold stepO; rw [h]; rfl
theorem step_hops {t : List Tg} {p : Pk} (h : decide ((fstE p).1 = 2) = false) (h1 : decide (p.2.1 = 0) = true) : stepO t p = [deadO 9] := by unfold stepO; rw [h, h1]; rfl
theorem step_map {t : List Tg} {p : Pk} (h : decide ((fstE p).1 = 2) = false) (h1 : decide (p.2.1 = 0) = false) (h2 : decide ((mtF t (fstE p).2.1).length = 0) = false) : stepO t p = (mtF t (fstE p).2.1).map (viaO p) := by unfold stepO; rw [h, h1, h2]; rfl
theorem stepO_next {t : List Tg} {p : Pk} (h : decide ((fstE p).1 = 2) = false) (h1 : decide (p.2.1 = 0) = false) (h2 : decide ((mtF t (fstE p).2.1).length = 0) = true) (h3 : decide (1 < p.1.length) = true) : stepO t p = [onO p zTg []] := by unfold stepO; rw [h, h1, h2, h3]; rfl
theorem step_none {t : List Tg} {p : Pk} (h : decide ((fstE p).1 = 2) = false) (h1 : decide (p.2.1 = 0) = false) (h2 : decide ((mtF t (fstE p).2.1).length = 0) = true) (h3 : decide (1 < p.1.length) = false) : stepO t p = [deadO 6] := by unfold stepO; rw [h, h1, h2, h3]; rfl
theorem via_next {K : List O2} {p : Pk} {M : List Tg} {k : Nat} {u : Value} (hk : k < M.length) (h : outs K = (M.take k).map (viaO p)) : outs (K ++ [(viaO p (M.getD k zTg), u)]) = (M.take (k + 1)).map (viaO p) := by
  rw [outs_snoc, h, take_tg hk, List.map_append]; rfl
def StP (w : World) (N : TypeId) (vs : Value) (p : Pk) (R : List Ot) : Asrt := fun v w' => ∃ K ks, outs K = R ∧ St w [.sl v N 73 K.length (ouCells K), .grp ks fun w9 => RdE w9 vs p.1 → RwU K w9] w'
theorem ou_put (K : List O2) (x : O2) : ouCells K ++ ([Value.agg (otArr x.1.k x.1.h x.2 x.1.p.2.1 x.1.p.2.2 x.1.t x.1.y)].flatMap fun v => v.cells.toList) = ouCells (K ++ [x]) := by rw [one_ou, ou_snoc]
theorem ou_len (K : List O2) (x : O2) : K.length + 1 = (K ++ [x]).length := by rw [List.length_append]; rfl
/-! two rows -/
theorem RwU.keep {w w' : World} {K : List O2} (h : RwU K w) (e : Ext w w') : RwU K w' := fun x hx => (h x hx).keep e
theorem RdU.keep {w w' : World} {v : Value} {K : List O2} (h : RdU w v K) (e : Ext w w') : RdU w' v K := ⟨h.1.keep e, h.2.keep e⟩
theorem outs_at {K : List O2} {j : Nat} (hj : j < K.length) : (outs K)[j]? = some (K.getD j zO2).1 := by
  unfold outs
  rw [List.getElem?_map, List.getElem?_eq_getElem hj, ouD hj]; rfl
/-! cut -/
theorem e_take {w : World} {v : Value} {l : List Ent} (h : RdE w v l) (k : Nat) (hk : k ≤ l.length) : RdE w (cutV v k) (l.take k) := by
  have := h.cut k hk
  unfold eCells at this
  rw [cells_take _ 34 (fun x => by rw [Array.length_toList, eArr_size])] at this
  unfold RdE
  rw [List.length_take, Nat.min_eq_left hk]
  exact this
/-! the packet of one host -/
theorem rt0 : rightT [] = true := by decide
theorem rwE_ok {t : List Tg} {p : Pk} (h : rightP p = true) (h2 : rightT t = true) : rwE t p = 0 ∧ rwL t p = stepO t p := by unfold rwE rwL; rw [h, h2]; exact ⟨rfl, rfl⟩
theorem rwE_no0 {p : Pk} (t : List Tg) (h : rightP p = false) : rwE t p = 1 ∧ rwL t p = [] := by unfold rwE rwL; rw [h]; exact ⟨rfl, rfl⟩
theorem rwE_no1 {t : List Tg} (p : Pk) (h : rightT t = false) : rwE t p = 1 ∧ rwL t p = [] := by unfold rwE rwL; rw [h, Bool.and_false]; exact ⟨rfl, rfl⟩
def RwP (w : World) (vs : Value) (p : Pk) (E : Int) (R : List Ot) : Asrt := fun v w' => ∃ u K ks, v = .tuple #[u, .int .i64 E] ∧ outs K = R ∧ St w [.grp ks fun w9 => RdE w9 vs p.1 → RdU w9 u K] w'
/-! how deep -/
theorem step_len {t : List Tg} {p : Pk} : 1 ≤ (stepO t p).length ∧ (stepO t p).length ≤ max t.length 1 := by
  unfold stepO
  cases h1 : decide ((fstE p).1 = 2)
  · cases h2 : decide (p.2.1 = 0)
    · cases h3 : decide ((mtF t (fstE p).2.1).length = 0)
      · have := of_decide_eq_false h3
        have := mtf_le t (fstE p).2.1
        show 1 ≤ ((mtF t (fstE p).2.1).map (viaO p)).length ∧ ((mtF t (fstE p).2.1).map (viaO p)).length ≤ _
        rw [List.length_map]; omega
      · cases h4 : decide (1 < p.1.length)
        · exact ⟨Nat.le_refl _, Nat.le_max_right _ _⟩
        · exact ⟨Nat.le_refl _, Nat.le_max_right _ _⟩
    · exact ⟨Nat.le_refl _, Nat.le_max_right _ _⟩
  · exact ⟨Nat.le_refl _, Nat.le_max_right _ _⟩
end Go.Proofs.YtobfeflheaobiaaDoor

namespace Go.Proofs.YtobfeflheaobiaaDoor
open Go.RowKit
/-! ### what goes on -/
abbrev zEn : Ent := (0, 0#256, 0)
theorem mtf_mem {l : List Tg} {x : Id} {y : Tg} (h : y ∈ mtF l x) : y ∈ l := by
  rcases mtf_at l x with ⟨h1, _⟩ | ⟨n, _, _, h1, _, _⟩
  · rw [h1] at h; cases h
  · rw [h1] at h; exact (mtk_mem h).1
/-- what the ways come to -/
theorem step_mem {t : List Tg} {p : Pk} {x : Ot} (hx : x ∈ stepO t p) :
    ((fstE p).1 = 2 ∧ stepO t p = [hostO p] ∧ x = hostO p) ∨ ((fstE p).1 ≠ 2 ∧ p.2.1 = 0 ∧ stepO t p = [deadO 9] ∧ x = deadO 9) ∨
    ((fstE p).1 ≠ 2 ∧ p.2.1 ≠ 0 ∧ stepO t p = (mtF t (fstE p).2.1).map (viaO p) ∧ ∃ y ∈ mtF t (fstE p).2.1, x = viaO p y) ∨
    ((fstE p).1 ≠ 2 ∧ p.2.1 ≠ 0 ∧ mtF t (fstE p).2.1 = [] ∧ 1 < p.1.length ∧ stepO t p = [onO p zTg []] ∧ x = onO p zTg []) ∨
    ((fstE p).1 ≠ 2 ∧ p.2.1 ≠ 0 ∧ mtF t (fstE p).2.1 = [] ∧ ¬ 1 < p.1.length ∧ stepO t p = [deadO 6] ∧ x = deadO 6) := by
  cases h0 : decide ((fstE p).1 = 2) with
  | true =>
    have e := step_host (t := t) h0
    rw [e] at hx
    exact .inl ⟨of_decide_eq_true h0, e, List.mem_singleton.1 hx⟩
  | false =>
    have n0 := of_decide_eq_false h0
    cases h1 : decide (p.2.1 = 0) with
    | true =>
      have e := step_hops (t := t) h0 h1
      rw [e] at hx
      exact .inr (.inl ⟨n0, of_decide_eq_true h1, e, List.mem_singleton.1 hx⟩)
    | false =>
      have n1 := of_decide_eq_false h1
      cases h2 : decide ((mtF t (fstE p).2.1).length = 0) with
      | false =>
        have e := step_map h0 h1 h2
        rw [e] at hx
        obtain ⟨y, hy, rfl⟩ := List.mem_map.1 hx
        exact .inr (.inr (.inl ⟨n0, n1, e, y, hy, rfl⟩))
      | true =>
        have z := List.length_eq_zero_iff.1 (of_decide_eq_true h2)
        cases h3 : decide (1 < p.1.length) with
        | true =>
          have e := stepO_next h0 h1 h2 h3
          rw [e] at hx
          exact .inr (.inr (.inr (.inl ⟨n0, n1, z, of_decide_eq_true h3, e, List.mem_singleton.1 hx⟩)))
        | false =>
          have e := step_none h0 h1 h2 h3
          rw [e] at hx
          exact .inr (.inr (.inr (.inr ⟨n0, n1, z, of_decide_eq_false h3, e, List.mem_singleton.1 hx⟩)))
theorem step_not {t : List Tg} {p : Pk} {x : Ot} (hx : x ∈ stepO t p) (h : x.k ≠ 2) : (stepO t p).length = 1 := by
  rcases step_mem hx with ⟨_, e, _⟩ | ⟨_, _, e, _⟩ | ⟨_, _, e, y, _, rfl⟩ | ⟨_, _, _, _, _, rfl⟩ | ⟨_, _, _, _, e, _⟩
  · rw [e]; rfl
  · rw [e]; rfl
  · exact absurd rfl h
  · exact absurd rfl h
  · rw [e]; rfl
def OnP (p : Pk) (x : Ot) : Prop := rightP x.p = true ∧ x.p.2.2 = p.2.2 ∧ x.p.2.1 = p.2.1 - 1 ∧ x.p.1.length ≤ p.1.length ∧ p.1.length - 1 ≤ x.p.1.length ∧ ∀ i, i + 1 < x.p.1.length → x.p.1.getD (x.p.1.length - 1 - i) zEn = p.1.getD (p.1.length - 1 - i) zEn
theorem on_on {p : Pk} (hr : rightP p = true) (h0 : p.2.1 ≠ 0) (b : Tg) (fr : List Ent) (hf : fr.length ≤ 1) (he : ∀ e ∈ fr, isE e = true) (hl : 1 ≤ fr.length + (p.1.length - 1)) : OnP p (onO p b fr) := by
  obtain ⟨⟨h1, h2, h3⟩, h4, h5, h6⟩ := rightP_iff.1 hr
  have ll : (fr ++ p.1.drop 1).length = fr.length + (p.1.length - 1) := by rw [List.length_append, List.length_drop]
  refine ⟨?_, rfl, rfl, ?_, ?_, fun i hi => ?_⟩
  · rw [rightP_iff]
    refine ⟨⟨?_, ?_, fun e h => ?_⟩, ?_, ?_, h6⟩
    · show 0 < (fr ++ p.1.drop 1).length; omega
    · show (fr ++ p.1.drop 1).length ≤ 4; omega
    · have h : e ∈ fr ++ p.1.drop 1 := h
      rcases List.mem_append.1 h with h | h
      · exact he e h
      · exact h3 e (List.mem_of_mem_drop h)
    · show 0 ≤ p.2.1 - 1; omega
    · show p.2.1 - 1 ≤ 64; omega
  · show (fr ++ p.1.drop 1).length ≤ _; omega
  · show _ ≤ (fr ++ p.1.drop 1).length; omega
  · have hi : i + 1 < (fr ++ p.1.drop 1).length := hi
    show (fr ++ p.1.drop 1).getD ((fr ++ p.1.drop 1).length - 1 - i) zEn = _
    rw [List.getD_eq_getElem?_getD, List.getD_eq_getElem?_getD, List.getElem?_append_right (by omega), List.getElem?_drop, ll]
    congr 2; omega
theorem step_on {t : List Tg} {p : Pk} {x : Ot} (hr : rightP p = true) (ht : rightT t = true) (hx : x ∈ stepO t p) (h : x.k = 2) : OnP p x := by
  obtain ⟨⟨h1, _, _⟩, _⟩ := rightP_iff.1 hr
  rcases step_mem hx with ⟨_, _, rfl⟩ | ⟨_, _, _, rfl⟩ | ⟨_, n1, _, y, hy, rfl⟩ | ⟨_, n1, _, hl, _, rfl⟩ | ⟨_, _, _, _, _, rfl⟩
  · exact absurd (show (1 : Int) = 2 from h) (by decide)
  · exact absurd (show (3 : Int) = 2 from h) (by decide)
  · refine on_on hr n1 y [y.2.1] (Nat.le_refl _) (fun e he => ?_) (by show 1 ≤ 1 + _; omega)
    rw [List.mem_singleton.1 he]
    exact (may_iff'.1 ((rt_iff.1 ht).may y (mtf_mem hy))).1
  · exact on_on hr n1 zTg [] (Nat.zero_le _) (fun e he => by cases he) (by show 1 ≤ 0 + _; omega)
  · exact absurd (show (3 : Int) = 2 from h) (by decide)
/-! by which triggers -/
/-! of other data, and more hops -/
end Go.Proofs.YtobfeflheaobiaaDoor

namespace Go.Proofs.YtobfeflheaobiaaDoor
open Go.RowKit
/-! ### package rewrite's own functions: what the walks want -/
def pkO : Option Value → Value
  | some (.slice a n c) => .slice a n c
  | _ => .slice none 0 0
def pkS : Value → Value
  | .agg a => pkO (a[0]?)
  | _ => .slice none 0 0
theorem pkO_form (o : Option Value) : ∃ a n c, pkO o = .slice a n c := by
  unfold pkO
  split
  · exact ⟨_, _, _, rfl⟩
  · exact ⟨_, _, _, rfl⟩
theorem pkS_form (v : Value) : ∃ a n c, pkS v = .slice a n c := by
  unfold pkS
  split
  · exact pkO_form _
  · exact ⟨_, _, _, rfl⟩
theorem pkS_cells (v : Value) : (pkS v).cells.toList = [pkS v] := by obtain ⟨a, n, c, h⟩ := pkS_form v; rw [h]; rfl
theorem pkS_of {w : World} {v : Value} {sz n : Nat} {xs : List Value} (h : RdZ w v sz n xs) (k : Int) (d : ByteArray) : pkS (.agg (pkArr v k d)) = v := by
  obtain ⟨a, c, rfl⟩ := h.len
  rfl
theorem fst_drop {p : Pk} (h : 1 ≤ p.1.length) : [fstE p] ++ p.1.drop 1 = p.1 := by
  obtain ⟨l, n, d⟩ := p
  match l, h with
  | e :: l, _ => rfl
theorem fst_mem {p : Pk} (h : 1 ≤ p.1.length) : fstE p ∈ p.1 := by
  obtain ⟨l, n, d⟩ := p
  match l, h with
  | e :: l, _ => exact List.mem_cons_self
theorem all_of {l : List Ent} (h : ∀ e ∈ l, isE e = true) : l.all isE = true := List.all_eq_true.2 h
theorem all_drop {l : List Ent} (h : l.all isE = true) (k : Nat) : (l.drop k).all isE = true := List.all_eq_true.2 fun e he => List.all_eq_true.1 h e (List.mem_of_mem_drop he)
theorem all_one {e : Ent} (h : isE e = true) : ([e] : List Ent).all isE = true := by rw [List.all_cons, h]; rfl
theorem mtf_tgt {t : List Tg} (h : rightT t = true) {x : Id} : ∀ y ∈ mtF t x, isE y.2.1 = true := fun y hy => (may_iff'.1 ((rt_iff.1 h).may y (mtf_mem hy))).1
theorem tgt_at {M : List Tg} (h : ∀ y ∈ M, isE y.2.1 = true) {k : Nat} (hk : k < M.length) : isE (M.getD k zTg).2.1 = true := h _ (tg_mem hk)
theorem mtE_yes {t : List Tg} (h : rightT t = true) {x : Id} (he : mtE t x = 0) : decide ((mtF t x).length = 0) = false := by
  rw [(tm_y h x).1] at he
  cases g : decide ((mtF t x).length = 0) with
  | false => rfl
  | true => rw [g] at he; exact absurd he (by decide)
theorem mtE_not {t : List Tg} (h : rightT t = true) {x : Id} (he : ¬ mtE t x = 0) : decide ((mtF t x).length = 0) = true := by
  rw [(tm_y h x).1] at he
  cases g : decide ((mtF t x).length = 0) with
  | true => rfl
  | false => rw [g] at he; exact absurd rfl he
theorem rwP_nil {w w' : World} {vs : Value} {p : Pk} {E : Int} {R : List Ot} (hE : E = 1) (hR : R = []) (s : St w [] w') : RwP w vs p E R (.tuple #[.slice none 0 0, .int .i64 1]) w' := by
  subst hE; subst hR
  exact ⟨_, [], [], rfl, rfl, s.grp0 (S := fun w9 => RdE w9 vs p.1 → RdU w9 nilV []) (fun w9 _ => ⟨⟨rfl, .inl ⟨rfl, rfl⟩⟩, rwU_nil w9⟩)⟩
theorem rwP_own {w w' : World} {v vs : Value} {p : Pk} {N : TypeId} {E : Int} {R : List Ot} {K : List O2} {ks : List Nat} (hE : E = 0) (hR : outs K = R) (s : St w [.sl v N 73 K.length (ouCells K), .grp ks fun w9 => RdE w9 vs p.1 → RwU K w9] w') : RwP w vs p E R (.tuple #[v, .int .i64 0]) w' := by
  subst hE
  obtain ⟨kn, s⟩ := s.grp1 (S' := fun w9 => RdE w9 vs p.1 → RdU w9 v K) (fun w9 h1 h2 h3 => ⟨h1, h2 h3⟩)
  exact ⟨v, K, kn, rfl, hR, s⟩
theorem rwP_dead {w w' : World} {v vs : Value} {p : Pk} {N : TypeId} {E y : Int} {R : List Ot} (hE : E = 0) (hR : R = [deadO y]) (s : St w [.sl v N 73 1 (ouCells [(deadO y, nilV)])] w') : RwP w vs p E R (.tuple #[v, .int .i64 0]) w' :=
  rwP_own (K := [(deadO y, nilV)]) (ks := []) hE hR.symm ((s.grp0 (S := fun w9 => RdE w9 vs p.1 → RwU [(deadO y, nilV)] w9) (fun w9 _ => rwU_one (re_nil w9))).perm (List.Perm.swap ..))
theorem rwP_one {w w' : World} {v u vs : Value} {p : Pk} {N M : TypeId} {E : Int} {R : List Ot} {x : Ot} {L : List Ent} (hE : E = 0) (hR : R = [x]) (hL : x.p.1 = L) (s : St w [.sl v N 73 1 (ouCells [(x, u)]), .sl u M 34 L.length (eCells L)] w') : RwP w vs p E R (.tuple #[v, .int .i64 0]) w' := by
  subst hL
  have s0 := (s.perm (List.Perm.swap ..)).grp0 (S := fun _ => True) (fun _ => trivial)
  obtain ⟨kn, s1⟩ := (s0.perm (List.Perm.swap ..)).grp1 (S' := fun w9 => RdE w9 vs p.1 → RwU [(x, u)] w9) (fun w9 h _ _ => rwU_one h)
  exact rwP_own (K := [(x, u)]) hE hR.symm (s1.perm (List.Perm.swap ..))
end Go.Proofs.YtobfeflheaobiaaDoor

namespace Go.Proofs.YtobfeflheaobiaaDoor
open Go.RowKit Go.ChangeShapes Go.WideShapes Go.ChangeAt
/-! ### packets that come in -/
theorem open_entsK {H : Type} {enc : TypeId × Value → H} {P : Program} {W : World} {ts t tn ti e : TypeId} {f0 f1 f2 : Field} {fuel : Nat} {cs : List Value} {x : DataW H × List MemPlace} (T : IdTy P ti e) (hc : P.cellsOf ti = 32) (hce : P.cellsOf e = 1) (hn : P.underlying tn = some (.int .i64)) (hcn : P.cellsOf tn = 1)
    (hts : P.underlying ts = some (.slice t)) (ht : P.underlying t = some (.struct #[f0, f1, f2])) (h0 : f0.type = tn) (h1 : f1.type = ti) (h2 : f2.type = tn) (o0 : f0.offset = 0) (o1 : f1.offset = 1) (o2 : f2.offset = 33) (hct : P.cellsOf t = 34)
    (hf : DataW.trod enc P W 0 (fun _ => true) true fuel ts cs = some x) : ∃ (v : Value) (ls : List Ent), cs = [v] ∧ RdZ W v 34 ls.length (eCells ls) := by
  rcases Go.Deep.open_slice hts hf with ⟨hcs, _⟩ | ⟨a', len, cap, m, k, D, Pl, hcs, _, hl, _, hm, _, hel⟩
  · exact ⟨_, [], hcs, rfl, .inl ⟨rfl, rfl⟩⟩
  · have hml : len ≤ m := by rw [hm]; split <;> omega
    have each : ∀ i, ∃ l : Ent, i < len → Has W (a'.add (i * 34)) (eArr l) := fun i => by
      by_cases hi : i < len
      · obtain ⟨cs', hc1, hc2⟩ := hel i (by omega)
        obtain ⟨l, rfl⟩ := open_entL T hc hce hn hcn ht h0 h1 h2 o0 o1 o2 hct hc2
        refine ⟨l, fun _ j u hj => ?_⟩
        rw [hct] at hc1
        obtain ⟨_, hlen, hall⟩ := World.cells?_some hc1
        have hj34 : j < 34 := by have := (Array.getElem?_eq_some_iff.1 hj).1; rw [eArr_size] at this; exact this
        have := hall j hj34
        rw [this, Array.getElem?_toList]; exact hj
      · exact ⟨(0, 0#256, 0), fun h9 => absurd h9 hi⟩
    obtain ⟨L, hL⟩ := Classical.axiomOfChoice each
    refine ⟨_, (List.range len).map L, hcs, ?_, .inr ⟨a', cap, by simp, by simpa using hl, ?_⟩⟩
    · rw [eCells_len]
    · refine has_flat _ 34 (by decide) (fun x => by rw [Array.length_toList, eArr_size]) _ fun i hi => ?_
      have hi' : i < len := by simpa using hi
      have := hL i hi'
      simpa using this
theorem open_pk {H : Type} {enc : TypeId × Value → H} {P : Program} {W : World} {r : Reach} {b0 : Nat} {tm tz ts t tn ti e : TypeId} {g0 g1 g2 f0 f1 f2 : Field} {v : Value} {d : DataW H} {ps : List MemPlace} (T : IdTy P ti e) (hc : P.cellsOf ti = 32) (hce : P.cellsOf e = 1) (hn : P.underlying tn = some (.int .i64)) (hcn : P.cellsOf tn = 1)
    (hz : P.underlying tz = some .string) (hcz : P.cellsOf tz = 1) (hcs : P.cellsOf ts = 1)
    (hts : P.underlying ts = some (.slice t)) (ht : P.underlying t = some (.struct #[f0, f1, f2])) (h0 : f0.type = tn) (h1 : f1.type = ti) (h2 : f2.type = tn) (o0 : f0.offset = 0) (o1 : f1.offset = 1) (o2 : f2.offset = 33) (hct : P.cellsOf t = 34)
    (htm : P.underlying tm = some (.struct #[g0, g1, g2])) (ht0 : g0.type = ts) (ht1 : g1.type = tn) (ht2 : g2.type = tz) (ho0 : g0.offset = 0) (ho1 : g1.offset = 1) (ho2 : g2.offset = 2) (hctm : P.cellsOf tm = 3)
    (hval : Value.okWide P W r b0 tm v) (h : DataW.Trod enc P W 0 (fun _ => true) true tm v d ps) : ∃ (p : Pk) (u : Value), v = .agg (pkArr u p.2.1 p.2.2) ∧ RdZ W u 34 p.1.length (eCells p.1) := by
  have hv : ∃ cs, v = .agg cs := by
    unfold Value.okWide at hval
    simp only [htm] at hval
    obtain ⟨cs, h9, _⟩ := hval
    exact ⟨cs, h9⟩
  obtain ⟨cs, rfl⟩ := hv
  obtain ⟨fuel, hf⟩ := h
  obtain ⟨xs, n, hcells, _, hl, hxl, hel⟩ := DataW.trod_struct htm hf
  have hcl : cs.toList.length = 3 := by rw [← hctm]; simpa [Value.cells] using hl
  have hx3 : xs.length = 3 := by simpa using hxl
  have e0 := hel 0 g0 rfl
  have e1 := hel 1 g1 rfl
  have e2 := hel 2 g2 rfl
  rw [ht0, ho0, hcs, List.getElem?_eq_getElem (by omega)] at e0
  rw [ht1, ho1, hcn, List.getElem?_eq_getElem (by omega)] at e1
  rw [ht2, ho2, hcz, List.getElem?_eq_getElem (by omega)] at e2
  obtain ⟨u, ls, hu, hls⟩ := open_entsK T hc hce hn hcn hts ht h0 h1 h2 o0 o1 o2 hct e0
  obtain ⟨k, hk, _⟩ := DataW.trod_int hn e1
  obtain ⟨d9, hd9, _⟩ := DataW.trod_string hz e2
  refine ⟨(ls, k, d9), u, ?_, hls⟩
  have key : cs.toList = (pkArr u k d9).toList := by
    show cs.toList = [u] ++ ([.int .i64 k] ++ [.string d9])
    simp only [Value.cells] at hu hk hd9 ⊢
    have hd2 : cs.toList.drop 2 = [.string d9] := by
      rw [List.take_of_length_le (by rw [List.length_drop, hcl]; omega)] at hd9; exact hd9
    have hsplit : cs.toList = cs.toList.take 1 ++ ((cs.toList.drop 1).take 1 ++ cs.toList.drop 2) := by
      rw [show cs.toList.drop 2 = (cs.toList.drop 1).drop 1 from by rw [List.drop_drop], List.take_append_drop, List.take_append_drop]
    rw [hd2, hk, show cs.toList.take 1 = [u] from hu] at hsplit
    exact hsplit
  rw [Array.toList_inj.1 key]
end Go.Proofs.YtobfeflheaobiaaDoor
