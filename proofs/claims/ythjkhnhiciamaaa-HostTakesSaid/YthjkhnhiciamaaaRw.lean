/- Packets and what becomes of them: which may be, which are the same, what goes on and by which triggers, of other data and more hops; packets that come in; no Go in it. -/
import Derived.Test.YthjkhnhiciamaaaTb
set_option linter.unusedVariables false
set_option linter.unusedSimpArgs false
set_option linter.unusedSectionVars false
namespace Go.Proofs.Ythjkhnhiciamaaa
open Go.RowKit
/-! ### packets: a stack, hops, data; what becomes of them -/
abbrev Pk := List Ent × Int × ByteArray
abbrev RdE (w : World) (v : Value) (l : List Ent) : Prop := RdZ w v 34 l.length (eCells l)
def pkL (v : Value) (h : Int) (d : ByteArray) : List Value := [v, .int .i64 h, .string d]
def pkArr (v : Value) (h : Int) (d : ByteArray) : Array Value := (pkL v h d).toArray
structure Ot where
  k : Int
  h : Int
  p : Pk
  t : Tg
  y : Int
deriving DecidableEq
abbrev O2 := Ot × Value
def otL (k h : Int) (v : Value) (n : Int) (d : ByteArray) (t : Tg) (y : Int) : List Value := .int .i64 k :: .int .i64 h :: (pkL v n d ++ (tgL t ++ [.int .i64 y]))
section
variable (k h : Int) (v : Value) (n : Int) (d : ByteArray) (t : Tg) (y : Int)
end
theorem tgL_zero : tgL zTg = tgZ.flatten := by
  have := congrArg Array.toList tg_zero
  exact this
def ouL (x : O2) : List Value := otL x.1.k x.1.h x.2 x.1.p.2.1 x.1.p.2.2 x.1.t x.1.y
def ouCells (l : List O2) : List Value := l.flatMap ouL
def RwU (K : List O2) (w : World) : Prop := ∀ x ∈ K, RdE w x.2 x.1.p.1
def RdU (w : World) (v : Value) (K : List O2) : Prop := RdZ w v 73 K.length (ouCells K) ∧ RwU K w
/-! ### the model -/
def rightP (p : Pk) : Bool := rightE p.1 && (decide (0 ≤ p.2.1) && (decide (p.2.1 ≤ 64) && decide (p.2.2.size ≤ 64)))
theorem rightP_iff {p : Pk} : rightP p = true ↔ (0 < p.1.length ∧ p.1.length ≤ 4 ∧ ∀ e ∈ p.1, isE e = true) ∧ 0 ≤ p.2.1 ∧ p.2.1 ≤ 64 ∧ p.2.2.size ≤ 64 := by
  unfold rightP
  rw [Bool.and_eq_true, Bool.and_eq_true, Bool.and_eq_true, rightE_iff, decide_eq_true_eq, decide_eq_true_eq, decide_eq_true_eq]
end Go.Proofs.Ythjkhnhiciamaaa

namespace Go.Proofs.Ythjkhnhiciamaaa
open Go.RowKit
/-! ### what the walks want of packets -/
section
variable {P : Program} {ρ : Operand → Value} {d : Option Tmp} {ty : TypeId} {pos : String} {af : Array Edge} {g : Option (Nat × Bool)} {x y z : Operand} {t : TypeId}
end
theorem e_elD (l : List Ent) (j : Nat) (hj : j < l.length) : (((eCells l).drop (j * 34)).take 34).toArray = eArr (l.getD j (0, 0#256, 0)) := by
  rw [e_el l j hj, List.getD_eq_getElem?_getD, List.getElem?_eq_getElem hj]; rfl
theorem re_nil (w : World) : RdE w nilV [] := ⟨rfl, .inl ⟨rfl, rfl⟩⟩
/-! what becomes of a packet -/
/-! two rows -/
theorem RwU.keep {w w' : World} {K : List O2} (h : RwU K w) (e : Ext w w') : RwU K w' := fun x hx => (h x hx).keep e
theorem RdU.keep {w w' : World} {v : Value} {K : List O2} (h : RdU w v K) (e : Ext w w') : RdU w' v K := ⟨h.1.keep e, h.2.keep e⟩
/-! cut -/
theorem e_take {w : World} {v : Value} {l : List Ent} (h : RdE w v l) (k : Nat) (hk : k ≤ l.length) : RdE w (cutV v k) (l.take k) := by
  have := h.cut k hk
  unfold eCells at this
  rw [cells_take _ 34 (fun x => by rw [Array.length_toList, eArr_size])] at this
  unfold RdE
  rw [List.length_take, Nat.min_eq_left hk]
  exact this
/-! the packet of one host -/
/-! how deep -/
end Go.Proofs.Ythjkhnhiciamaaa

namespace Go.Proofs.Ythjkhnhiciamaaa
open Go.RowKit
/-! ### what goes on -/
abbrev zEn : Ent := (0, 0#256, 0)
/-! by which triggers -/
theorem e_kind0 {l : List Ent} (h : 0 < l.length) : (eCells l)[0 * 34 + 0]? = some (.int .i64 (l.getD 0 zEn).1) := by
  match l, h with
  | e :: l, _ => rfl
/-! of other data, and more hops -/
end Go.Proofs.Ythjkhnhiciamaaa

namespace Go.Proofs.Ythjkhnhiciamaaa
open Go.RowKit
/-! ### package rewrite's own functions: what the walks want -/
def pkO : Option Value → Value
  | some (.slice a n c) => .slice a n c
  | _ => .slice none 0 0
theorem pkO_form (o : Option Value) : ∃ a n c, pkO o = .slice a n c := by
  unfold pkO
  split
  · exact ⟨_, _, _, rfl⟩
  · exact ⟨_, _, _, rfl⟩
theorem pkO_one (o : Option Value) : (pkO o).oneCell' = true := by obtain ⟨a, n, c, h⟩ := pkO_form o; rw [h]; rfl
end Go.Proofs.Ythjkhnhiciamaaa

namespace Go.Proofs.Ythjkhnhiciamaaa
open Go.RowKit Go.ChangeShapes Go.WideShapes Go.ChangeAt
/-! ### packets that come in -/
theorem open_entsK {H : Type} {enc : TypeId × Value → H} {P : Program} {W : World} {ts t tn ti e : TypeId} {f0 f1 f2 : Field} {fuel : Nat} {cs : List Value} {x : DataW H × List MemPlace} (T : IdTy P ti e) (hc : P.cellsOf ti = 32) (hce : P.cellsOf e = 1) (hn : P.underlying tn = some (.int .i64)) (hcn : P.cellsOf tn = 1)
    (hts : P.underlying ts = some (.slice t)) (ht : P.underlying t = some (.struct #[f0, f1, f2])) (h0 : f0.type = tn) (h1 : f1.type = ti) (h2 : f2.type = tn) (o0 : f0.offset = 0) (o1 : f1.offset = 1) (o2 : f2.offset = 33) (hct : P.cellsOf t = 34)
    (hf : DataW.trod enc P W 0 (fun _ => true) true fuel ts cs = some x) : ∃ (v : Value) (ls : List Ent), cs = [v] ∧ RdZ W v 34 ls.length (eCells ls) := by
  rcases Go.Deep.open_slice hts hf with ⟨hcs, _⟩ | ⟨a', len, cap, m, k, D, Pl, hcs, _, hl, _, hm, _, hel⟩
  · exact ⟨_, [], hcs, rfl, .inl ⟨rfl, rfl⟩⟩
  · have hml : len ≤ m := by rw [hm]; split <;> omega
    have each : ∀ i, ∃ l : Ent, i < len → Has W (a'.add (i * 34)) (eArr l) := fun i => by
      by_cases hi : i < len
      · obtain ⟨cs', hc1, hc2⟩ := hel i (by omega)
        obtain ⟨l, rfl⟩ := open_entL T hc hce hn hcn ht h0 h1 h2 o0 o1 o2 hct hc2
        refine ⟨l, fun _ j u hj => ?_⟩
        rw [hct] at hc1
        obtain ⟨_, hlen, hall⟩ := World.cells?_some hc1
        have hj34 : j < 34 := by have := (Array.getElem?_eq_some_iff.1 hj).1; rw [eArr_size] at this; exact this
        have := hall j hj34
        rw [this, Array.getElem?_toList]; exact hj
      · exact ⟨(0, 0#256, 0), fun h9 => absurd h9 hi⟩
    obtain ⟨L, hL⟩ := Classical.axiomOfChoice each
    refine ⟨_, (List.range len).map L, hcs, ?_, .inr ⟨a', cap, by simp, by simpa using hl, ?_⟩⟩
    · rw [eCells_len]
    · refine has_flat _ 34 (by decide) (fun x => by rw [Array.length_toList, eArr_size]) _ fun i hi => ?_
      have hi' : i < len := by simpa using hi
      have := hL i hi'
      simpa using this
theorem open_pk {H : Type} {enc : TypeId × Value → H} {P : Program} {W : World} {r : Reach} {b0 : Nat} {tm tz ts t tn ti e : TypeId} {g0 g1 g2 f0 f1 f2 : Field} {v : Value} {d : DataW H} {ps : List MemPlace} (T : IdTy P ti e) (hc : P.cellsOf ti = 32) (hce : P.cellsOf e = 1) (hn : P.underlying tn = some (.int .i64)) (hcn : P.cellsOf tn = 1)
    (hz : P.underlying tz = some .string) (hcz : P.cellsOf tz = 1) (hcs : P.cellsOf ts = 1)
    (hts : P.underlying ts = some (.slice t)) (ht : P.underlying t = some (.struct #[f0, f1, f2])) (h0 : f0.type = tn) (h1 : f1.type = ti) (h2 : f2.type = tn) (o0 : f0.offset = 0) (o1 : f1.offset = 1) (o2 : f2.offset = 33) (hct : P.cellsOf t = 34)
    (htm : P.underlying tm = some (.struct #[g0, g1, g2])) (ht0 : g0.type = ts) (ht1 : g1.type = tn) (ht2 : g2.type = tz) (ho0 : g0.offset = 0) (ho1 : g1.offset = 1) (ho2 : g2.offset = 2) (hctm : P.cellsOf tm = 3)
    (hval : Value.okWide P W r b0 tm v) (h : DataW.Trod enc P W 0 (fun _ => true) true tm v d ps) : ∃ (p : Pk) (u : Value), v = .agg (pkArr u p.2.1 p.2.2) ∧ RdZ W u 34 p.1.length (eCells p.1) := by
  have hv : ∃ cs, v = .agg cs := by
    unfold Value.okWide at hval
    simp only [htm] at hval
    obtain ⟨cs, h9, _⟩ := hval
    exact ⟨cs, h9⟩
  obtain ⟨cs, rfl⟩ := hv
  obtain ⟨fuel, hf⟩ := h
  obtain ⟨xs, n, hcells, _, hl, hxl, hel⟩ := DataW.trod_struct htm hf
  have hcl : cs.toList.length = 3 := by rw [← hctm]; simpa [Value.cells] using hl
  have hx3 : xs.length = 3 := by simpa using hxl
  have e0 := hel 0 g0 rfl
  have e1 := hel 1 g1 rfl
  have e2 := hel 2 g2 rfl
  rw [ht0, ho0, hcs, List.getElem?_eq_getElem (by omega)] at e0
  rw [ht1, ho1, hcn, List.getElem?_eq_getElem (by omega)] at e1
  rw [ht2, ho2, hcz, List.getElem?_eq_getElem (by omega)] at e2
  obtain ⟨u, ls, hu, hls⟩ := open_entsK T hc hce hn hcn hts ht h0 h1 h2 o0 o1 o2 hct e0
  obtain ⟨k, hk, _⟩ := DataW.trod_int hn e1
  obtain ⟨d9, hd9, _⟩ := DataW.trod_string hz e2
  refine ⟨(ls, k, d9), u, ?_, hls⟩
  have key : cs.toList = (pkArr u k d9).toList := by
    show cs.toList = [u] ++ ([.int .i64 k] ++ [.string d9])
    simp only [Value.cells] at hu hk hd9 ⊢
    have hd2 : cs.toList.drop 2 = [.string d9] := by
      rw [List.take_of_length_le (by rw [List.length_drop, hcl]; omega)] at hd9; exact hd9
    have hsplit : cs.toList = cs.toList.take 1 ++ ((cs.toList.drop 1).take 1 ++ cs.toList.drop 2) := by
      rw [show cs.toList.drop 2 = (cs.toList.drop 1).drop 1 from by rw [List.drop_drop], List.take_append_drop, List.take_append_drop]
    rw [hd2, hk, show cs.toList.take 1 = [u] from hu] at hsplit
    exact hsplit
  rw [Array.toList_inj.1 key]
end Go.Proofs.Ythjkhnhiciamaaa
