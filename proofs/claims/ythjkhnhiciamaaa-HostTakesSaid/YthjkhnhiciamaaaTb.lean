/- Triggers and tables: which may be, which is below which, what is put, dropped, over, matched and cut; what may be stays such, parts put together, and in whatever order; triggers that come in; no Go in it. -/
import Derived.Test.YthjkhnhiciamaaaLk
set_option linter.unusedVariables false
set_option linter.unusedSimpArgs false
set_option linter.unusedSectionVars false
namespace Go.Proofs.Ythjkhnhiciamaaa
open Go.RowKit
/-! ### triggers: an identifier, an entry, a time -/
abbrev Tg := Id × Ent × Int
def tgL (t : Tg) : List Value := (idArr t.1).toList ++ ((eArr t.2.1).toList ++ [.int .i64 t.2.2])
def tgArr (t : Tg) : Array Value := (tgL t).toArray
def zTg : Tg := (0#256, (0, 0#256, 0), 0)
theorem tgL_len (t : Tg) : (tgL t).length = 67 := by simp [tgL, eArr_size]
theorem tgArr_size (t : Tg) : (tgArr t).size = 67 := by simp [tgArr, tgL_len]
theorem tgL_ones (t : Tg) : ∀ v ∈ tgL t, v.oneCell' = true := fun v hv => by
  unfold tgL at hv
  rcases List.mem_append.1 hv with hv | hv
  · rw [idArr_bytes] at hv; exact bytesF_ones _ _ v hv
  · rcases List.mem_append.1 hv with hv | hv
    · exact eArr_ones _ v hv
    · rw [List.mem_singleton] at hv; subst hv; rfl
theorem idA_len (x : Id) : (idArr x).toList.length = 32 := by simp
theorem eA_len (e : Ent) : (eArr e).toList.length = 34 := by rw [Array.length_toList, eArr_size]
theorem tg_f0 (t : Tg) : ((tgArr t).toList.drop 0).take 32 = (idArr t.1).toList := by
  show ((tgL t).drop 0).take 32 = _
  unfold tgL
  rw [List.drop_zero, List.take_left' (idA_len _)]
theorem tg_f1 (t : Tg) : ((tgArr t).toList.drop 32).take 34 = (eArr t.2.1).toList := by
  show ((tgL t).drop 32).take 34 = _
  unfold tgL
  rw [List.drop_left' (idA_len _), List.take_left' (eA_len _)]
theorem tg_f2 (t : Tg) : ((tgArr t).toList.drop 66).take 1 = [Value.int .i64 t.2.2] := by
  show ((tgL t).drop 66).take 1 = _
  unfold tgL
  rw [← List.append_assoc, List.drop_left' (by rw [List.length_append, idA_len, eA_len])]; rfl
theorem ext_lt9 (L : List Value) (C : Array Value) (a n : Nat) (h : (L.drop a).take n = C.toList) : L.toArray.extract a (a + n) = C := by
  apply Array.ext'
  rw [Array.toList_extract, List.extract_eq_take_drop, Nat.add_sub_cancel_left]
  exact h
theorem tgArr_inj {x y : Tg} (h : (tgArr x).toList = (tgArr y).toList) : x = y := by
  have h0 := tg_f0 x; rw [h, tg_f0] at h0
  have h1 := tg_f1 x; rw [h, tg_f1] at h1
  have h2 := tg_f2 x; rw [h, tg_f2] at h2
  refine Prod.ext (idArr_inj (Array.toList_inj.1 h0)).symm (Prod.ext (eArr_inj h1).symm ?_)
  simpa using h2.symm
theorem tgEq (x y : Tg) : decide (x = y) = true ↔ (tgArr x).toList = (tgArr y).toList := by
  rw [decide_eq_true_eq]; exact ⟨fun h => by rw [h], tgArr_inj⟩
def tgZ : List (List Value) := [List.replicate 32 (.int .u8 0), .int .i64 0 :: (List.replicate 32 (.int .u8 0) ++ [.int .i64 0]), [.int .i64 0]]
theorem tg_zero : tgArr zTg = tgZ.flatten.toArray := by
  unfold tgArr tgL zTg; rw [eArr_zero, idArr_zero]; rfl
def tgCells (l : List Tg) : List Value := l.flatMap tgL
theorem tgCells_len (l : List Tg) : (tgCells l).length = l.length * 67 := cells_len _ 67 tgL_len l
end Go.Proofs.Ythjkhnhiciamaaa

namespace Go.Proofs.Ythjkhnhiciamaaa
open Go.RowKit
/-! ### which may be; which is below which -/
def mayT (t : Tg) : Bool := isE t.2.1 && (decide (0 ≤ t.2.2) && decide (t.2.2 ≤ 1099511627776))
def LtT (a b : Tg) : Prop := a.1.toNat < b.1.toNat ∨ (a.1 = b.1 ∧ (a.2.1.1 < b.2.1.1 ∨ (a.2.1.1 = b.2.1.1 ∧ (a.2.1.2.1.toNat < b.2.1.2.1.toNat ∨ (a.2.1.2.1 = b.2.1.2.1 ∧ a.2.1.2.2 < b.2.1.2.2)))))
instance (a b : Tg) : Decidable (LtT a b) := by unfold LtT; infer_instance
def ltT (a b : Tg) : Bool := decide (LtT a b)
def SmT (a b : Tg) : Prop := a.1 = b.1 ∧ a.2.1 = b.2.1
instance (a b : Tg) : Decidable (SmT a b) := by unfold SmT; infer_instance
theorem SmT.symm {a b : Tg} (h : SmT a b) : SmT b a := ⟨h.1.symm, h.2.symm⟩
theorem SmT.trans {a b c : Tg} (h : SmT a b) (g : SmT b c) : SmT a c := ⟨h.1.trans g.1, h.2.trans g.2⟩
def Srt (l : List Tg) : Prop := l.Pairwise LtT
theorem Srt.filter {l : List Tg} (h : Srt l) (p : Tg → Bool) : Srt (l.filter p) := List.Pairwise.filter p h
structure RT (l : List Tg) : Prop where
  may : ∀ y ∈ l, mayT y = true
  srt : Srt l
  len : l.length ≤ 32
/-! ### triggers of an identifier and a target -/
def isT (i : Id) (e : Ent) (y : Tg) : Bool := decide (y.1 = i) && decide (y.2.1 = e)
def nTg : Tg := (0#256, (0, 0#256, 0), -1)
def findT (l : List Tg) (i : Id) (e : Ent) : Tg := (l.find? (isT i e)).getD nTg
def wosT (l : List Tg) (i : Id) (e : Ent) : List Tg := l.filter fun y => !isT i e y
/-! ### put in its place -/
def bigT (l : List Tg) (x : Tg) : Tg := bif decide (x.2.2 < (findT l x.1 x.2.1).2.2) then (x.1, x.2.1, (findT l x.1 x.2.1).2.2) else x
def insT (l : List Tg) (x : Tg) : List Tg := l.takeWhile (fun y => !ltT x y) ++ x :: l.dropWhile (fun y => !ltT x y)
def putT (l : List Tg) (x : Tg) : List Tg := insT (wosT l x.1 x.2.1) (bigT l x)
end Go.Proofs.Ythjkhnhiciamaaa

namespace Go.Proofs.Ythjkhnhiciamaaa
open Go.RowKit
/-! ### dropped, over, matched, cut -/
/-! ### what may be stays such -/
theorem RT.filter {l : List Tg} (h : RT l) (p : Tg → Bool) : RT (l.filter p) := ⟨fun y hy => h.may y (List.mem_filter.1 hy).1, h.srt.filter p, Nat.le_trans (List.length_filter_le _ _) h.len⟩
end Go.Proofs.Ythjkhnhiciamaaa

namespace Go.Proofs.Ythjkhnhiciamaaa
open Go.RowKit
/-! ### what the package's calls hand out: rows that can be read wherever what came in can -/
abbrev RdT (w : World) (v : Value) (l : List Tg) : Prop := RdZ w v 67 l.length (tgCells l)
def TbP (w : World) (vh : Value) (l K : List Tg) (E : Int) : Asrt := fun v w' => ∃ p ks, v = .tuple #[p, .int .i64 E] ∧ St w [.grp ks fun w9 => RdT w9 vh l → RdT w9 p K] w'
/-! what they come to -/
/-! what is put is matched -/
end Go.Proofs.Ythjkhnhiciamaaa

namespace Go.Proofs.Ythjkhnhiciamaaa
open Go.RowKit
/-! ### package table's own functions: how one stands to another, where one is, what is put there, the likest -/
/-! where one is -/
structure FndT (l : List Tg) (x : Tg) (n : Nat) (b : Bool) : Prop where
  le : n ≤ l.length
  lo : ∀ j, j < n → ltT (l.getD j zTg) x = true
  hi : ∀ j, n ≤ j → j < l.length → ltT (l.getD j zTg) x = false
  is : b = (decide (n < l.length) && isT x.1 x.2.1 (l.getD n zTg))
/-! what is put there -/
/-! the likest -/
theorem St.grp1 {w0 w : World} {a : Value} {M : TypeId} {sa n : Nat} {xs : List Value} {ks : List Nat} {S S' : World → Prop} {B : List Own} (s : St w0 (.sl a M sa n xs :: .grp ks S :: B) w) (h : ∀ w9, RdZ w9 a sa n xs → S w9 → S' w9) : ∃ kn, St w0 (.grp kn S' :: B) w :=
  ⟨_, (St.group (A := [.sl a M sa n xs, .grp ks S]) (B := B) s).weak fun w9 h9 => h w9 (RdZ.of_own (h9 (.sl a M sa n xs) (by simp))) ((h9 (.grp ks S) (by simp)).2 w9 fun _ _ => rfl)⟩
/-! rows put together, in memory -/
section
variable {P : Program} {ρ : Operand → Value} {d : Option Tmp} {ty : TypeId} {pos : String} {af : Array Edge} {g : Option (Nat × Bool)} {x y z : Operand} {t : TypeId}
end
/-! the four functions' numbers; what is called -/
section
variable {P : Program} {ρ : Operand → Value} {d : Option Tmp} {ty : TypeId} {pos : String} {af : Array Edge} {g : Option (Nat × Bool)} {x y z : Operand} {t : TypeId}
end
/-! what is handed out -/
/-! one cell of one of them set -/
end Go.Proofs.Ythjkhnhiciamaaa

namespace Go.Proofs.Ythjkhnhiciamaaa
open Go.RowKit Go.ChangeShapes Go.WideShapes Go.ChangeAt
/-! ### triggers that come in -/
theorem open_tgL {H : Type} {enc : TypeId × Value → H} {P : Program} {w : World} {base : Nat} {spare : Nat → Bool} {held : Bool} {t te tn ti e : TypeId} {f0 f1 f2 g0 g1 g2 : Field} {fuel : Nat} {cs : List Value} {x : DataW H × List MemPlace} (T : IdTy P ti e) (hc : P.cellsOf ti = 32) (hce : P.cellsOf e = 1) (hn : P.underlying tn = some (.int .i64)) (hcn : P.cellsOf tn = 1)
    (hte : P.underlying te = some (.struct #[f0, f1, f2])) (h0 : f0.type = tn) (h1 : f1.type = ti) (h2 : f2.type = tn) (o0 : f0.offset = 0) (o1 : f1.offset = 1) (o2 : f2.offset = 33) (hcte : P.cellsOf te = 34)
    (ht : P.underlying t = some (.struct #[g0, g1, g2])) (k0 : g0.type = ti) (k1 : g1.type = te) (k2 : g2.type = tn) (p0 : g0.offset = 0) (p1 : g1.offset = 32) (p2 : g2.offset = 66) (hct : P.cellsOf t = 67)
    (h : DataW.trod enc P w base spare held fuel t cs = some x) : ∃ l : Tg, cs = (tgArr l).toList := by
  obtain ⟨xs, n, rfl, _, hl, hxl, hel⟩ := DataW.trod_struct ht h
  rw [hct] at hl
  have hx2 : xs.length = 3 := by simpa using hxl
  have e0 := hel 0 g0 rfl
  have e1 := hel 1 g1 rfl
  have e2 := hel 2 g2 rfl
  rw [k0, p0, hc, List.getElem?_eq_getElem (by omega)] at e0
  rw [k1, p1, hcte, List.getElem?_eq_getElem (by omega)] at e1
  rw [k2, p2, hcn, List.getElem?_eq_getElem (by omega)] at e2
  obtain ⟨a, ha⟩ := open_idL T hc hce e0
  obtain ⟨b, hb⟩ := open_entL T hc hce hn hcn hte h0 h1 h2 o0 o1 o2 hcte e1
  obtain ⟨u, hu, _⟩ := DataW.trod_int hn e2
  refine ⟨(a, b, u), ?_⟩
  show cs = (idArr a).toList ++ ((eArr b).toList ++ [.int .i64 u])
  rw [← ha, ← hb, ← hu, List.drop_zero]
  have s1 : (cs.drop 66).take 1 = cs.drop 66 := List.take_of_length_le (by rw [List.length_drop]; omega)
  have s2 : (cs.drop 32).take 34 ++ cs.drop 66 = cs.drop 32 := by
    have := List.take_append_drop 34 (cs.drop 32)
    rw [List.drop_drop] at this
    exact this
  rw [s1, s2, List.take_append_drop]
theorem open_tg {H : Type} {enc : TypeId × Value → H} {P : Program} {W : World} {r : Reach} {b0 : Nat} {t te tn ti e : TypeId} {f0 f1 f2 g0 g1 g2 : Field} {v : Value} {d : DataW H} {ps : List MemPlace} (T : IdTy P ti e) (hc : P.cellsOf ti = 32) (hce : P.cellsOf e = 1) (hn : P.underlying tn = some (.int .i64)) (hcn : P.cellsOf tn = 1)
    (hte : P.underlying te = some (.struct #[f0, f1, f2])) (h0 : f0.type = tn) (h1 : f1.type = ti) (h2 : f2.type = tn) (o0 : f0.offset = 0) (o1 : f1.offset = 1) (o2 : f2.offset = 33) (hcte : P.cellsOf te = 34)
    (ht : P.underlying t = some (.struct #[g0, g1, g2])) (k0 : g0.type = ti) (k1 : g1.type = te) (k2 : g2.type = tn) (p0 : g0.offset = 0) (p1 : g1.offset = 32) (p2 : g2.offset = 66) (hct : P.cellsOf t = 67)
    (hval : Value.okWide P W r b0 t v) (h : DataW.Trod enc P W 0 (fun _ => true) true t v d ps) : ∃ l : Tg, v = .agg (tgArr l) := by
  have hv : ∃ cs, v = .agg cs := by
    unfold Value.okWide at hval
    simp only [ht] at hval
    obtain ⟨cs, h9, _⟩ := hval
    exact ⟨cs, h9⟩
  obtain ⟨cs, rfl⟩ := hv
  obtain ⟨fuel, hf⟩ := h
  obtain ⟨l, hl⟩ := open_tgL T hc hce hn hcn hte h0 h1 h2 o0 o1 o2 hcte ht k0 k1 k2 p0 p1 p2 hct hf
  refine ⟨l, ?_⟩
  have : cs.toList = (tgArr l).toList := by simpa [Value.cells] using hl
  rw [Array.toList_inj.1 this]
theorem open_tgs {H : Type} {enc : TypeId × Value → H} {P : Program} {W : World} {r : Reach} {b0 : Nat} {ts t te tn ti e : TypeId} {f0 f1 f2 g0 g1 g2 : Field} {v : Value} {d : DataW H} {ps : List MemPlace} (T : IdTy P ti e) (hc : P.cellsOf ti = 32) (hce : P.cellsOf e = 1) (hn : P.underlying tn = some (.int .i64)) (hcn : P.cellsOf tn = 1)
    (hte : P.underlying te = some (.struct #[f0, f1, f2])) (h0 : f0.type = tn) (h1 : f1.type = ti) (h2 : f2.type = tn) (o0 : f0.offset = 0) (o1 : f1.offset = 1) (o2 : f2.offset = 33) (hcte : P.cellsOf te = 34)
    (hts : P.underlying ts = some (.slice t)) (ht : P.underlying t = some (.struct #[g0, g1, g2])) (k0 : g0.type = ti) (k1 : g1.type = te) (k2 : g2.type = tn) (p0 : g0.offset = 0) (p1 : g1.offset = 32) (p2 : g2.offset = 66) (hct : P.cellsOf t = 67)
    (hval : Value.okWide P W r b0 ts v) (h : DataW.Trod enc P W 0 (fun _ => true) true ts v d ps) : ∃ ls : List Tg, RdZ W v 67 ls.length (tgCells ls) := by
  obtain ⟨a, n, c, rfl⟩ := okWide_slice hts hval
  obtain ⟨fuel, hf⟩ := h
  rcases Go.Deep.open_slice hts hf with ⟨hcs, _⟩ | ⟨a', len, cap, m, k, D, Pl, hcs, _, hl, _, hm, _, hel⟩
  · have : Value.slice a n c = .slice none 0 0 := by simpa [Value.cells] using hcs
    exact ⟨[], rfl, .inl ⟨this, rfl⟩⟩
  · have hv : Value.slice a n c = .slice (some a') len cap := by simpa [Value.cells] using hcs
    have hml : len ≤ m := by rw [hm]; split <;> omega
    have each : ∀ i, ∃ l : Tg, i < len → Has W (a'.add (i * 67)) (tgArr l) := fun i => by
      by_cases hi : i < len
      · obtain ⟨cs', hc1, hc2⟩ := hel i (by omega)
        obtain ⟨l, rfl⟩ := open_tgL T hc hce hn hcn hte h0 h1 h2 o0 o1 o2 hcte ht k0 k1 k2 p0 p1 p2 hct hc2
        refine ⟨l, fun _ j u hj => ?_⟩
        rw [hct] at hc1
        obtain ⟨_, hlen, hall⟩ := World.cells?_some hc1
        have hj67 : j < 67 := by have := (Array.getElem?_eq_some_iff.1 hj).1; rw [tgArr_size] at this; exact this
        have := hall j hj67
        rw [this, Array.getElem?_toList]; exact hj
      · exact ⟨zTg, fun h9 => absurd h9 hi⟩
    obtain ⟨L, hL⟩ := Classical.axiomOfChoice each
    refine ⟨(List.range len).map L, ?_, .inr ⟨a', cap, by rw [hv]; simp, by simpa using hl, ?_⟩⟩
    · rw [tgCells_len]
    · refine has_flat _ 67 (by decide) tgL_len _ fun i hi => ?_
      have hi' : i < len := by simpa using hi
      have h9 : ((List.range len).map L)[i] = L i := by simp
      rw [h9]
      exact hL i hi'
end Go.Proofs.Ythjkhnhiciamaaa
