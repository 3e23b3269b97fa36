/- Entries, stacks and their bytes: what may be, what is written, what is read; slices of entries; no Go in it. -/
import Derived.Lib.AppendZeros
import Derived.Deep.Slices
import Derived.Test.YthjkhnhiciamaaaPr
set_option linter.unusedVariables false
set_option linter.unusedSimpArgs false
set_option linter.unusedSectionVars false
namespace Go.Proofs.Ythjkhnhiciamaaa
open Go.RowKit
/-! ### entries: a kind, an identifier, a host -/
abbrev Ent := Int × Id × Int
def eArr (e : Ent) : Array Value := (Value.int .i64 e.1 :: ((idArr e.2.1).toList ++ [.int .i64 e.2.2])).toArray
theorem eArr_size (e : Ent) : (eArr e).size = 34 := by simp [eArr]
theorem eArr_list (e : Ent) : (eArr e).toList = Value.int .i64 e.1 :: ((idArr e.2.1).toList ++ [.int .i64 e.2.2]) := rfl
theorem eArr_ones (e : Ent) : ∀ v ∈ (eArr e).toList, v.oneCell' = true := fun v hv => by
  rw [eArr_list] at hv
  rcases List.mem_cons.1 hv with rfl | hv
  · simp [Value.oneCell', Value.cells]
  · rcases List.mem_append.1 hv with hv | hv
    · rw [idArr_bytes] at hv; exact bytesF_ones _ _ v hv
    · rw [List.mem_singleton] at hv; subst hv; simp [Value.oneCell', Value.cells]
theorem eArr_kind (e : Ent) : (eArr e)[0]? = some (.int .i64 e.1) := rfl
theorem eArr_host (e : Ent) : (eArr e)[33]? = some (.int .i64 e.2.2) := by
  rw [← Array.getElem?_toList, eArr_list, List.getElem?_cons_succ, List.getElem?_append_right (by simp)]
  simp
theorem eArr_id (e : Ent) : (eArr e).extract 1 (1 + 32) = idArr e.2.1 := by
  apply Array.ext'
  rw [Array.toList_extract, List.extract_eq_take_drop, eArr_list]
  simp
theorem eArr_inj {x y : Ent} (h : (eArr x).toList = (eArr y).toList) : x = y := by
  have h' := Array.toList_inj.1 h
  have h0 := eArr_kind x; rw [h', eArr_kind] at h0
  have h1 := eArr_host x; rw [h', eArr_host] at h1
  have h2 := eArr_id x; rw [h', eArr_id] at h2
  simp at h0 h1
  have h3 := idArr_inj h2
  exact Prod.ext h0.symm (Prod.ext h3.symm h1.symm)
theorem eEq (x y : Ent) : decide (x = y) = true ↔ (eArr x).toList = (eArr y).toList := by
  rw [decide_eq_true_eq]; exact ⟨fun h => by rw [h], eArr_inj⟩
theorem eNe (x y : Ent) : decide (x = y) = true ↔ (eArr x).toList = (eArr y).toList := eEq x y
def eCells (l : List Ent) : List Value := l.flatMap fun e => (eArr e).toList
theorem eCells_len (l : List Ent) : (eCells l).length = l.length * 34 := cells_len _ 34 (fun x => by rw [Array.length_toList, eArr_size]) l
theorem eCells_ones (l : List Ent) : ∀ u ∈ eCells l, u.oneCell' = true := fun u hu => by
  obtain ⟨x, _, hx⟩ := List.mem_flatMap.1 hu
  exact eArr_ones x u hx
theorem e_el (l : List Ent) (j : Nat) (hj : j < l.length) : (((eCells l).drop (j * 34)).take 34).toArray = eArr l[j] := by
  unfold eCells
  rw [cells_el _ 34 (fun x => by rw [Array.length_toList, eArr_size]) l j hj]
theorem re_take {w : World} {v : Value} {ls : List Ent} (h : RdZ w v 34 ls.length (eCells ls)) (k : Nat) (hk : k ≤ ls.length) : RdZ w (cutV v k) 34 (ls.take k).length (eCells (ls.take k)) := by
  have := h.cut k hk
  unfold eCells at this
  rw [cells_take _ 34 (fun x => by rw [Array.length_toList, eArr_size])] at this
  rw [List.length_take, Nat.min_eq_left hk]
  exact this
/-! ### which may be -/
def isE (e : Ent) : Bool := (decide (e.1 = 1) && decide (e.2.2 = 0)) || (decide (e.1 = 2) && decide (e.2.1 = 0#256) && decide (0 ≤ e.2.2) && decide (e.2.2 < 16))
def rightE (l : List Ent) : Bool := decide (0 < l.length) && decide (l.length ≤ 4) && l.all isE
theorem rightE_iff (l : List Ent) : rightE l = true ↔ 0 < l.length ∧ l.length ≤ 4 ∧ ∀ e ∈ l, isE e = true := by
  unfold rightE; rw [Bool.and_eq_true, Bool.and_eq_true, decide_eq_true_eq, decide_eq_true_eq, List.all_eq_true, and_assoc]
def zB (a : Id) (k : Nat) : Bool := (List.range k).all fun i => decide (byteAt a i = 0)
theorem zB_succ (a : Id) (k : Nat) : zB a (k + 1) = (zB a k && decide (byteAt a k = 0)) := by
  unfold zB; rw [List.range_succ, List.all_append]; simp
theorem byteAt_z (i : Nat) : byteAt 0#256 i = 0 := by unfold byteAt byteN; simp
theorem zB_end (a : Id) : zB a 32 = decide (a = 0#256) := by
  rw [Bool.eq_iff_iff, decide_eq_true_eq]
  unfold zB
  rw [List.all_eq_true]
  constructor
  · intro h
    refine id_ext fun i hi => ?_
    rw [byteAt_z]
    exact of_decide_eq_true (h i (List.mem_range.2 hi))
  · intro h i _
    rw [h, byteAt_z]; rfl
/-! ### bytes -/
def idL (a : Id) : List Nat := (List.range 32).map (byteAt a)
theorem idL_length (a : Id) : (idL a).length = 32 := by simp [idL]
def entL (e : Ent) : List Nat := if e.1 = 1 then 1 :: idL e.2.1 else [2, e.2.2.toNat]
def textL (l : List Ent) : List Nat := l.length :: l.flatMap entL
theorem entL_length (e : Ent) : (entL e).length ≤ 33 ∧ 2 ≤ (entL e).length := by
  unfold entL; split
  · simp [idL]
  · simp
theorem flatE_len (l : List Ent) : (l.flatMap entL).length ≤ 33 * l.length := by
  induction l with
  | nil => simp
  | cons e l ih => have := (entL_length e).1; rw [List.flatMap_cons, List.length_append, List.length_cons]; omega
/-! ### reading -/
def entM (t : ByteArray) : Int × Ent × Nat :=
  if t.size = 0 then (3, (0, 0#256, 0), 0)
  else if sb t 0 = 1 then
    if t.size < 33 then (3, (0, 0#256, 0), 0) else (0, (1, idOf fun i => sb t (1 + i), 0), 33)
  else if sb t 0 = 2 then
    if t.size < 2 then (3, (0, 0#256, 0), 0) else if 16 ≤ sb t 1 then (5, (0, 0#256, 0), 0) else (0, (2, 0#256, (sb t 1 : Int)), 2)
  else (5, (0, 0#256, 0), 0)
def sufS (s : ByteArray) (n : Nat) : ByteArray := s.extract n s.size
def rdS (s : ByteArray) : Nat → Int × List Ent × Nat
  | 0 => (0, [], 1)
  | k + 1 => if (rdS s k).1 = 0 then
      if (entM (sufS s (rdS s k).2.2)).1 = 0 then (0, (rdS s k).2.1 ++ [(entM (sufS s (rdS s k).2.2)).2.1], (rdS s k).2.2 + (entM (sufS s (rdS s k).2.2)).2.2)
      else ((entM (sufS s (rdS s k).2.2)).1, [], 0)
    else rdS s k
def readM (s : ByteArray) : Int × List Ent × Nat :=
  if s.size = 0 then (3, [], 0) else if sb s 0 < 1 ∨ 4 < sb s 0 then (5, [], 0) else rdS s (sb s 0)
end Go.Proofs.Ythjkhnhiciamaaa

namespace Go.Proofs.Ythjkhnhiciamaaa
open Go.RowKit Go.ChangeShapes Go.WideShapes Go.ChangeAt
/-! ### entries in the program -/
theorem EqV.up {P : Program} {D : Nat} {e : TypeId} {sz : Nat} {V : List Value → Prop} {vl : List Value → Value} (E : EqV P D e sz V vl) : EqV P (D + 1) e sz V vl :=
  ⟨E.len, E.size, E.part, fun d xs ys w hx hy => by
    have := E.eq (d + 1) xs ys w hx hy
    rwa [show d + (D + 1) = d + 1 + D from by omega]⟩
theorem eArr_f0 (e : Ent) : ((eArr e).toList.drop 0).take 1 = [Value.int .i64 e.1] := rfl
theorem eArr_f1 (e : Ent) : ((eArr e).toList.drop 1).take 32 = (bytesF (byteAt e.2.1) 32).toList := by
  rw [eArr_list, List.drop_succ_cons, List.drop_zero, List.take_append_of_le_length (by simp), List.take_of_length_le (by simp), idArr_bytes]
theorem eArr_f2 (e : Ent) : ((eArr e).toList.drop 33).take 1 = [Value.int .i64 e.2.2] := by
  rw [eArr_list, List.drop_succ_cons, List.drop_append, List.drop_eq_nil_of_le (by simp)]
  simp
theorem eArr_zero : eArr (0, 0#256, 0) = (Value.int .i64 0 :: (List.replicate 32 (Value.int .u8 0) ++ [.int .i64 0])).toArray := by
  unfold eArr; rw [idArr_zero]; rfl
section
variable {P : Program} {a : Act} {w w0 : World} {N : Nat} {L : List (Nat × Value)} {B : List Own} {fn : Func} {T : Asrt}
theorem e_row_tmp2 {p q r t : Tmp} {b n : Nat} {C : Array Value} {u : TypeId} {V U : Value} (i : Nat) (hres : fn.results = #[.cell p t, .tmp q, .tmp r]) (h : Sl N a L) (s : St w0 B w) (hr : Row P t n) (hp : lk L p = some (.pointer (some ⟨b, 0, none⟩))) (hi : B[i]? = some (.blk b (.cells C u))) (hn : C.size = n)
    (hq : lk L q = some V) (hu : lk L r = some U) (hT : T (.tuple #[.agg C, V, U]) w) : bodyPost P fn (Ret w0 T) .ret a w := by
  refine ⟨h.defers, .tuple #[.agg C, V, U], ?_, _, rfl, hT, s.ext⟩
  have hp' : a.tmps[p]?.getD undef = .pointer (some ⟨b, 0, none⟩) := by simpa using h.holds p _ hp
  have hq' : a.tmps[q]?.getD undef = V := by simpa using h.holds q _ hq
  have hu' : a.tmps[r]?.getD undef = U := by simpa using h.holds r _ hu
  simp [results, hres, hp', hq', hu', asAddr, run_load_row hr w b C u (0, 0) (s.get i hi) hn]
end
section
variable {P : Program} {ρ : Operand → Value} {d : Option Tmp} {ty : TypeId} {pos : String} {af : Array Edge} {g : Option (Nat × Bool)} {x y : Operand} {t t' e : TypeId} {k : IntKind} {m n : Int}
def eZ : List (List Value) := [[.int .i64 0], List.replicate 32 (.int .u8 0), [.int .i64 0]]
theorem ru_build_e0 (S : Stt P t eZ) : RunsTo P ⟨d, .build t #[], ty, pos, af, g⟩ ρ (.agg (eArr (0, 0#256, 0))) := by
  have := ru_build_st (P := P) (ρ := ρ) (d := d) (ty := ty) (pos := pos) (af := af) (g := g) (parts := #[]) S [] (by simp) (fun i v hm => by simp at hm) (D := (eArr (0, 0#256, 0)).toList) (by rw [eArr_zero]; rfl)
  simpa using this
theorem ru_build_eh {q r : Int} (S : Stt P t eZ) (hx : ρ x = .int .i64 q) (hy : ρ y = .int .i64 r) : RunsTo P ⟨d, .build t #[(0, x), (2, y)], ty, pos, af, g⟩ ρ (.agg (eArr (q, 0#256, r))) := by
  have := ru_build_st (P := P) (ρ := ρ) (d := d) (ty := ty) (pos := pos) (af := af) (g := g) (parts := #[(0, x), (2, y)]) S [(0, .int .i64 q), (2, .int .i64 r)] (by simp [hx, hy]) (fun i v hm => by
    simp at hm
    rcases hm with ⟨rfl, rfl⟩ | ⟨rfl, rfl⟩
    · exact ⟨_, rfl, rfl⟩
    · exact ⟨_, rfl, rfl⟩) (D := (eArr (q, 0#256, r)).toList) (by rw [eArr_list, idArr_zero]; rfl)
  simpa using this
theorem RdZ.has0 {w : World} {v : Value} {n : Nat} {xs : List Value} (h : RdZ w v 1 n xs) (h0 : 0 < n) {D : Array Value} (hD : xs.toArray = D) : Has w (elAddr v 0) D := by
  rcases h.2 with ⟨_, h9⟩ | ⟨p, c, rfl, _, hH⟩
  · omega
  · have e : elAddr (.slice (Option.some p) n c) 0 = p := by simp [elAddr, Addr.add]
    rw [e, ← hD]; exact hH
end
section
variable {P : Program} {ops : Array Oper} {Q : Act → World → Prop} {l : List Oper} {a : Act} {w w0 : World} {N : Nat} {L : List (Nat × Value)} {Df : List Deferred} {B : List Own} {d : Tmp} {ty : TypeId} {pos : String} {af : Array Edge} {x y : Operand} {t t' e : TypeId}
end
/-! ### entries that come in -/
theorem open_entL {H : Type} {enc : TypeId × Value → H} {P : Program} {w : World} {base : Nat} {spare : Nat → Bool} {held : Bool} {t tn ti e : TypeId} {f0 f1 f2 : Field} {fuel : Nat} {cs : List Value} {x : DataW H × List MemPlace} (T : IdTy P ti e) (hc : P.cellsOf ti = 32) (hce : P.cellsOf e = 1) (hn : P.underlying tn = some (.int .i64)) (hcn : P.cellsOf tn = 1)
    (ht : P.underlying t = some (.struct #[f0, f1, f2])) (h0 : f0.type = tn) (h1 : f1.type = ti) (h2 : f2.type = tn) (o0 : f0.offset = 0) (o1 : f1.offset = 1) (o2 : f2.offset = 33) (hct : P.cellsOf t = 34) (h : DataW.trod enc P w base spare held fuel t cs = some x) : ∃ l : Ent, cs = (eArr l).toList := by
  obtain ⟨xs, n, rfl, _, hl, hxl, hel⟩ := DataW.trod_struct ht h
  rw [hct] at hl
  have hx2 : xs.length = 3 := by simpa using hxl
  have e0 := hel 0 f0 rfl
  have e1 := hel 1 f1 rfl
  have e2 := hel 2 f2 rfl
  rw [h0, o0, hcn, List.getElem?_eq_getElem (by omega)] at e0
  rw [h1, o1, hc, List.getElem?_eq_getElem (by omega)] at e1
  rw [h2, o2, hcn, List.getElem?_eq_getElem (by omega)] at e2
  obtain ⟨k, hk, _⟩ := DataW.trod_int hn e0
  obtain ⟨a, ha⟩ := open_idL T hc hce e1
  obtain ⟨h9, hh, _⟩ := DataW.trod_int hn e2
  refine ⟨(k, a, h9), ?_⟩
  rw [eArr_list, ← ha]
  have hdrop : cs.drop 33 = [Value.int .i64 h9] := by
    rw [List.take_of_length_le (by rw [List.length_drop]; omega)] at hh
    exact hh
  have hsplit : cs = (cs.drop 0).take 1 ++ ((cs.drop 1).take 32 ++ cs.drop 33) := by
    rw [List.drop_zero, show cs.drop 33 = (cs.drop 1).drop 32 from by rw [List.drop_drop], List.take_append_drop, List.take_append_drop]
  rw [hk, hdrop] at hsplit
  exact hsplit
theorem open_ent {H : Type} {enc : TypeId × Value → H} {P : Program} {W : World} {r : Reach} {b0 : Nat} {t tn ti e : TypeId} {f0 f1 f2 : Field} {v : Value} {d : DataW H} {ps : List MemPlace} (T : IdTy P ti e) (hc : P.cellsOf ti = 32) (hce : P.cellsOf e = 1) (hn : P.underlying tn = some (.int .i64)) (hcn : P.cellsOf tn = 1)
    (ht : P.underlying t = some (.struct #[f0, f1, f2])) (h0 : f0.type = tn) (h1 : f1.type = ti) (h2 : f2.type = tn) (o0 : f0.offset = 0) (o1 : f1.offset = 1) (o2 : f2.offset = 33) (hct : P.cellsOf t = 34)
    (hval : Value.okWide P W r b0 t v) (h : DataW.Trod enc P W 0 (fun _ => true) true t v d ps) : ∃ l : Ent, v = .agg (eArr l) := by
  have hv : ∃ cs, v = .agg cs := by
    unfold Value.okWide at hval
    simp only [ht] at hval
    obtain ⟨cs, h9, _⟩ := hval
    exact ⟨cs, h9⟩
  obtain ⟨cs, rfl⟩ := hv
  obtain ⟨fuel, hf⟩ := h
  obtain ⟨l, hl⟩ := open_entL T hc hce hn hcn ht h0 h1 h2 o0 o1 o2 hct hf
  refine ⟨l, ?_⟩
  have : cs.toList = (eArr l).toList := by simpa [Value.cells] using hl
  rw [Array.toList_inj.1 this]
theorem open_ents {H : Type} {enc : TypeId × Value → H} {P : Program} {W : World} {r : Reach} {b0 : Nat} {ts t tn ti e : TypeId} {f0 f1 f2 : Field} {v : Value} {d : DataW H} {ps : List MemPlace} (T : IdTy P ti e) (hc : P.cellsOf ti = 32) (hce : P.cellsOf e = 1) (hn : P.underlying tn = some (.int .i64)) (hcn : P.cellsOf tn = 1)
    (hts : P.underlying ts = some (.slice t)) (ht : P.underlying t = some (.struct #[f0, f1, f2])) (h0 : f0.type = tn) (h1 : f1.type = ti) (h2 : f2.type = tn) (o0 : f0.offset = 0) (o1 : f1.offset = 1) (o2 : f2.offset = 33) (hct : P.cellsOf t = 34)
    (hval : Value.okWide P W r b0 ts v) (h : DataW.Trod enc P W 0 (fun _ => true) true ts v d ps) : ∃ ls : List Ent, RdZ W v 34 ls.length (eCells ls) := by
  obtain ⟨a, n, c, rfl⟩ := okWide_slice hts hval
  obtain ⟨fuel, hf⟩ := h
  rcases Go.Deep.open_slice hts hf with ⟨hcs, _⟩ | ⟨a', len, cap, m, k, D, Pl, hcs, _, hl, _, hm, _, hel⟩
  · have : Value.slice a n c = .slice none 0 0 := by simpa [Value.cells] using hcs
    exact ⟨[], rfl, .inl ⟨this, rfl⟩⟩
  · have hv : Value.slice a n c = .slice (some a') len cap := by simpa [Value.cells] using hcs
    have hml : len ≤ m := by rw [hm]; split <;> omega
    have each : ∀ i, ∃ l : Ent, i < len → Has W (a'.add (i * 34)) (eArr l) := fun i => by
      by_cases hi : i < len
      · obtain ⟨cs', hc1, hc2⟩ := hel i (by omega)
        obtain ⟨l, rfl⟩ := open_entL T hc hce hn hcn ht h0 h1 h2 o0 o1 o2 hct hc2
        refine ⟨l, fun _ j u hj => ?_⟩
        rw [hct] at hc1
        obtain ⟨_, hlen, hall⟩ := World.cells?_some hc1
        have hj34 : j < 34 := by have := (Array.getElem?_eq_some_iff.1 hj).1; rw [eArr_size] at this; exact this
        have := hall j hj34
        rw [this, Array.getElem?_toList]; exact hj
      · exact ⟨(0, 0#256, 0), fun h9 => absurd h9 hi⟩
    obtain ⟨L, hL⟩ := Classical.axiomOfChoice each
    refine ⟨(List.range len).map L, ?_, .inr ⟨a', cap, by rw [hv]; simp, by simpa using hl, ?_⟩⟩
    · rw [eCells_len]
    · refine has_flat _ 34 (by decide) (fun x => by rw [Array.length_toList, eArr_size]) _ fun i hi => ?_
      have hi' : i < len := by simpa using hi
      have := hL i hi'
      simpa using this
end Go.Proofs.Ythjkhnhiciamaaa

namespace Go.Proofs.Ythjkhnhiciamaaa
/-! ### what the walks of entries want -/
theorem isE_one (e : Ent) (h : e.1 = 1) : isE e = decide (e.2.2 = 0) := by
  unfold isE; rw [h]; simp
theorem isE_two (e : Ent) (h : e.1 = 2) : isE e = (decide (e.2.1 = 0#256) && decide (0 ≤ e.2.2) && decide (e.2.2 < 16)) := by
  unfold isE; rw [h]; simp
theorem isE_none (e : Ent) (h : ¬ e.1 = 1) (h2 : ¬ e.1 = 2) : isE e = false := by
  unfold isE; simp [h, h2]
theorem slot_bool {x : Option Value} {a b : Bool} (h : x = some (.bool a)) (e : a = b) : x = some (.bool b) := e ▸ h
theorem all_no {l : List Ent} {k : Nat} (hk : k < l.length) (hc : (!isE l[k]) = true) : false = l.all isE := by
  symm
  rw [List.all_eq_false]
  exact ⟨l[k], List.getElem_mem hk, by simpa using hc⟩
theorem all_yes {l : List Ent} {k : Nat} (hk : l.length ≤ k) (h : ∀ i (hi : i < l.length), i < k → isE l[i] = true) : true = l.all isE := by
  symm
  rw [List.all_eq_true]
  intro x hx
  obtain ⟨i, hi, e⟩ := List.getElem_of_mem hx
  rw [← e]; exact h i hi (by omega)
theorem same_next {l m : List Ent} {k : Nat} (h : ∀ i (_ : i < l.length), i < k → l[i]? = m[i]?) (hk : k < l.length) (hm : k < m.length) (hc : (!decide (l[k] = m[k])) = false) : ∀ i (_ : i < l.length), i < k + 1 → l[i]? = m[i]? := fun i hi h9 => by
  by_cases e : i = k
  · subst e
    rw [List.getElem?_eq_getElem hk, List.getElem?_eq_getElem hm]
    have : l[i] = m[i] := by simpa using hc
    rw [this]
  · exact h i hi (by omega)
theorem same_no {l m : List Ent} {k : Nat} (hk : k < l.length) (hm : k < m.length) (hc : (!decide (l[k] = m[k])) = true) : false = decide (l = m) := by
  symm
  refine decide_eq_false fun h => ?_
  subst h
  simp at hc
theorem same_yes {l m : List Ent} {k : Nat} (hlm : l.length = m.length) (hk : l.length ≤ k) (h : ∀ i (_ : i < l.length), i < k → l[i]? = m[i]?) : true = decide (l = m) := by
  symm
  refine decide_eq_true (List.ext_getElem? fun i => ?_)
  by_cases hi : i < l.length
  · exact h i hi (by omega)
  · rw [List.getElem?_eq_none (by omega), List.getElem?_eq_none (by omega)]
/-! ### the reference's record -/
/-! ### one entry is read -/
/-! ### a stack is read -/
theorem owns_nil (w : World) (base : Nat) (e : TypeId) (sz : Nat) : Owns w base e sz (.slice none 0 0) 0 [] := ⟨by simp, .inl ⟨rfl, rfl⟩⟩
section
variable {t : ByteArray}
end
theorem St.recell {w0 w : World} {B : List Own} {b : Nat} {C D : Array Value} {u : TypeId} (s : St w0 B w) (i : Nat) (hi : B[i]? = some (.blk b (.cells C u))) (e : C = D) : St w0 (B.set i (.blk b (.cells D u))) w := by
  subst e
  have : B.set i (.blk b (.cells C u)) = B := by
    apply List.ext_getElem?
    intro j
    by_cases h : i = j
    · subst h
      have hl := (List.getElem?_eq_some_iff.1 hi).1
      rw [List.getElem?_set_self hl, hi]
    · rw [List.getElem?_set_ne h]
  rw [this]; exact s
section
variable {P : Program} {ρ : Operand → Value} {d : Option Tmp} {ty : TypeId} {pos : String} {af : Array Edge} {g : Option (Nat × Bool)} {x y : Operand} {t : TypeId}
end
/-! ### pushes -/
/-! ### what the laws want -/
end Go.Proofs.Ythjkhnhiciamaaa
