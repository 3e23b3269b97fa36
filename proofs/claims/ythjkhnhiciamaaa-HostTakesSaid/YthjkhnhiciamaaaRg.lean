/- Members on the ring: ways, members found; own slices that are set; members that come in; the closest of those that are known; no Go in it. -/
import Derived.Test.YthjkhnhiciamaaaEm
set_option linter.unusedVariables false
set_option linter.unusedSimpArgs false
set_option linter.unusedSectionVars false
namespace Go.Proofs.Ythjkhnhiciamaaa
open Go.RowKit
/-! ### ways on the ring -/
def NN : Nat := 2 ^ 256
def fd (s x : Id) : Nat := (x - s).toNat
theorem id_lt (x : Id) : x.toNat < NN := x.isLt
theorem fd_cases (s x : Id) : (s.toNat ≤ x.toNat ∧ fd s x + s.toNat = x.toNat) ∨ (x.toNat < s.toNat ∧ fd s x + s.toNat = NN + x.toNat) := by
  have h1 := id_lt s
  have h2 := id_lt x
  have h3 : fd s x = (NN - s.toNat + x.toNat) % NN := BitVec.toNat_sub ..
  by_cases h : s.toNat ≤ x.toNat
  · refine .inl ⟨h, ?_⟩
    have h4 : NN - s.toNat + x.toNat = (x.toNat - s.toNat) + NN := by omega
    rw [h3, h4, Nat.add_mod_right, Nat.mod_eq_of_lt (by omega)]
    omega
  · refine .inr ⟨by omega, ?_⟩
    rw [h3, Nat.mod_eq_of_lt (by omega)]
    omega
theorem fd_inj {s x y : Id} (h : fd s x = fd s y) : x = y := by
  have h1 := fd_cases s x
  have h2 := fd_cases s y
  have h3 := id_lt x
  have h4 := id_lt y
  exact BitVec.eq_of_toNat_eq (by omega)
/-! ### members -/
abbrev Mb := Int × Id
def zMb : Mb := (0, 0#256)
def nMb : Mb := (-1, 0#256)
def mbL (m : Mb) : List Value := .int .i64 m.1 :: (idArr m.2).toList
def mbArr (m : Mb) : Array Value := (mbL m).toArray
theorem mbL_len (m : Mb) : (mbL m).length = 33 := by simp [mbL]
theorem mbArr_size (m : Mb) : (mbArr m).size = 33 := by simp [mbArr, mbL_len]
def mbCells (l : List Mb) : List Value := l.flatMap mbL
theorem mbCells_len (l : List Mb) : (mbCells l).length = l.length * 33 := cells_len _ 33 mbL_len l
/-! ### which may be -/
def clash (m x : Mb) : Bool := decide (x.1 = m.1) || decide (x.2 = m.2)
def badR (l : List Mb) (d : Nat) : Bool := decide ((l.getD d zMb).1 < 0) || (decide (16 ≤ (l.getD d zMb).1) || (l.take d).any (clash (l.getD d zMb)))
def rightR (l : List Mb) : Bool := decide (l.length ≤ 16) && (List.range l.length).all fun d => !badR l d
structure Rg (l : List Mb) : Prop where
  len : l.length ≤ 16
  nos : ∀ m ∈ l, 0 ≤ m.1 ∧ m.1 < 16
  nd : l.Pairwise fun a b => a.1 ≠ b.1 ∧ a.2 ≠ b.2
theorem pw_eq {α : Type} {R : α → α → Prop} (hs : ∀ a b, R a b → R b a) {l : List α} (h : l.Pairwise R) {x y : α} (hx : x ∈ l) (hy : y ∈ l) (hn : ¬ R x y) : x = y := by
  obtain ⟨i, hi, rfl⟩ := List.mem_iff_getElem.1 hx
  obtain ⟨j, hj, rfl⟩ := List.mem_iff_getElem.1 hy
  rcases Nat.lt_trichotomy i j with h1 | h1 | h1
  · exact absurd (List.pairwise_iff_getElem.1 h i j hi hj h1) hn
  · subst h1; rfl
  · exact absurd (hs _ _ (List.pairwise_iff_getElem.1 h j i hj hi h1)) hn
theorem Rg.no {l : List Mb} (h : Rg l) {x y : Mb} (hx : x ∈ l) (hy : y ∈ l) (e : x.1 = y.1) : x = y :=
  pw_eq (fun _ _ h9 => ⟨h9.1.symm, h9.2.symm⟩) h.nd hx hy fun h9 => h9.1 e
theorem Rg.id {l : List Mb} (h : Rg l) {x y : Mb} (hx : x ∈ l) (hy : y ∈ l) (e : x.2 = y.2) : x = y :=
  pw_eq (fun _ _ h9 => ⟨h9.1.symm, h9.2.symm⟩) h.nd hx hy fun h9 => h9.2 e
theorem Rg.sub {l r : List Mb} (h : Rg l) (hs : r.Sublist l) : Rg r := ⟨Nat.le_trans hs.length_le h.len, fun m hm => h.nos m (hs.subset hm), h.nd.sublist hs⟩
theorem Rg.fd {l : List Mb} (h : Rg l) {x y : Mb} (s : Id) (hx : x ∈ l) (hy : y ∈ l) (hn : x ≠ y) : fd s x.2 ≠ fd s y.2 := fun e => hn (h.id hx hy (fd_inj e))
/-! ### the least, the greatest -/
/-! ### the next one -/
/-! ### one that comes, one that goes -/
end Go.Proofs.Ythjkhnhiciamaaa

namespace Go.Proofs.Ythjkhnhiciamaaa
open Go.RowKit
/-! ### what the walks of members want: builds, comparisons -/
theorem mbArr_list (m : Mb) : (mbArr m).toList = Value.int .i64 m.1 :: (idArr m.2).toList := rfl
section
variable {P : Program} {ρ : Operand → Value} {d : Option Tmp} {ty : TypeId} {pos : String} {af : Array Edge} {g : Option (Nat × Bool)} {x y : Operand} {t : TypeId}
end
/-! which may be: what is found where -/
/-! the member of a number -/
def findR (l : List Mb) (no : Int) : Option Mb := l.find? fun m => decide (m.1 = no)
theorem find_mem {l : List Mb} {no : Int} {m : Mb} (h : findR l no = some m) : m ∈ l ∧ m.1 = no := by
  refine ⟨List.mem_of_find?_eq_some h, ?_⟩
  have := List.find?_some h
  exact of_decide_eq_true this
theorem find_gt {l : List Mb} {no : Int} : findR l no = none ∨ ∃ m, findR l no = some m ∧ m ∈ l ∧ m.1 = no := by
  cases h : findR l no with
  | none => exact .inl rfl
  | some m => exact .inr ⟨m, rfl, find_mem h⟩
def refF (l : List Mb) (no : Int) : Mb := (findR l no).getD nMb
/-! whom it belongs to -/
/-! the one ahead -/
/-! ### those that follow -/
/-! all of them, each once, the own one last -/
/-! ### a closure that is called in an order that is drawn -/
section
variable {P : Program} {ops : List Oper} {K : Act → World → Prop} {l : List Oper} {a : Act} {w : World} {N : Nat} {L : List (Nat × Value)} {Df : List Deferred} {d : Tmp} {ty : TypeId} {pos : String} {af : Array Edge}
end
section
variable {P : Program} {a : Act} {w w0 : World} {N : Nat} {L : List (Nat × Value)} {B : List Own} {fn : Func}
end
end Go.Proofs.Ythjkhnhiciamaaa

namespace Go.Proofs.Ythjkhnhiciamaaa
open Go.RowKit
/-! ### an own slice that is made, and an element of it that is set -/
section
variable {P : Program} {ops : Array Oper} {Q : Act → World → Prop} {l : List Oper} {a : Act} {w w0 : World} {N : Nat} {L : List (Nat × Value)} {Df : List Deferred} {B : List Own} {d : Tmp} {ty : TypeId} {pos : String} {af : Array Edge} {x y : Operand} {t e : TypeId}
theorem s_store_el {v : Value} {sz n : Nat} {xs ys : List Value} {D : Array Value} (i j : Nat) (h : Sl N a L Df) (s : St w0 B w) (hr : Row P t sz) (hx : evo L x = some (.pointer (some (elAddr v (j * sz))))) (hy : evo L y = some (.agg D)) (hi : B[i]? = some (.sl v e sz n xs)) (hD : D.size = sz) (hj : j < n) (hv : ∀ u ∈ D.toList, u.oneCell' = true)
    (hys : xs.take (j * sz) ++ D.toList ++ xs.drop (j * sz + sz) = ys)
    (k : ∀ w', St w0 (B.set i (.sl v e sz n ys)) w' → Lst P ops Q l a w') : Lst P ops Q (⟨none, .store t x y, ty, pos, af, none⟩ :: l) a w := by
  have ho := s.getSl i hi
  rcases ho.2 with ⟨_, h0⟩ | ⟨g, cap, cur, fz, rfl, hb, hg, hfz, hnc, hcm, hcs, htk⟩
  · omega
  · have hle : j * sz + sz ≤ n * sz := by
      have := Nat.mul_le_mul_right sz (show j + 1 ≤ n from hj)
      rwa [Nat.add_mul, Nat.one_mul] at this
    have hcl : n * sz ≤ cur.size := by rw [hcs]; exact Nat.mul_le_mul_right _ hnc
    have hxl : xs.length = n * sz := ho.1
    have hcx : cur.toList = xs ++ cur.toList.drop (n * sz) := by rw [← htk]; exact (List.take_append_drop _ _).symm
    have hyl : ys.length = n * sz := by
      rw [← hys]; simp only [List.length_append, List.length_take, List.length_drop, Array.length_toList]; omega
    have hnew : cur.toList.take (j * sz) ++ D.toList ++ cur.toList.drop (j * sz + D.size) = ys ++ cur.toList.drop (n * sz) := by
      rw [← hys, hD]
      conv => lhs; rw [hcx]
      rw [List.take_append_of_le_length (by omega), List.drop_append_of_le_length (by omega)]
      simp only [List.append_assoc]
    have hst : (storeVar t ⟨g, j * sz, none⟩ (.agg D)).run P w = .ok () (w.setRow g (ys ++ cur.toList.drop (n * sz)).toArray) := by
      have hs : (sizeOf t).run P w = .ok D.size w := by
        cases hq : P.info? t with
        | none => have := hr.size; simp [hq] at this
        | some i => have := hr.size; simp [hq] at this; simp [sizeOf, typeInfo, Sem.run_bind, hq, this, hD]
      have := run_storeCells_atG P g (j * sz) e fz D.toList 0 cur w hg hfz (by rw [Array.length_toList]; omega) hv
      simp only [Nat.add_zero, Array.length_toList] at this
      rw [hnew] at this
      simp [storeVar, Sem.run_bind, hs, Value.cells, this]
    have hsz : (ys ++ cur.toList.drop (n * sz)).toArray.size = cur.size := by
      rw [List.size_toArray, List.length_append, List.length_drop, hyl]; have := Array.length_toList (xs := cur); omega
    refine s_doesN (R := fun _ w' => w' = w.setRow g (ys ++ cur.toList.drop (n * sz)).toArray) ?_ fun w' _ hw => by
      subst hw
      refine k _ (s.upd i hi (p' := .sl _ e sz n ys) rfl rfl rfl (by simp) ⟨hyl, .inr ⟨g, cap, _, fz, rfl, hb, setRow_heap w g cur _ e fz hg, ?_, hnc, hcm, ?_, ?_⟩⟩ (fun k hk => .inl hk) (fun k hk hne => setRow_other w g k _ fun e9 => hne (Own.at_sl.2 (by simp [Value.ownBlock, e9]))))
      · rw [hsz]; exact hfz
      · rw [hsz]; exact hcs
      · show (ys ++ cur.toList.drop (n * sz)).take (n * sz) = ys
        rw [← hyl]; exact List.take_left
    unfold Does
    have hel : (some (elAddr (Value.slice (some ⟨g, 0, none⟩) n cap) (j * sz)) : Option Addr) = some ⟨g, j * sz, none⟩ := by show some (Addr.add _ _) = _; rw [Addr.add_lit, Nat.zero_add]
    rw [hel] at hx
    simp only [execOp, h.ev hx, h.ev hy, Instr.storeAt, Instr.sureAddr, Sem.run_bind, Sem.run_pure, Result.andThen_ok, hst]
end
/-! ### a set of numbers as a map to true -/
section
variable {P : Program} {ops : Array Oper} {Q : Act → World → Prop} {l : List Oper} {a : Act} {w w0 : World} {N : Nat} {L : List (Nat × Value)} {Df : List Deferred} {B : List Own} {d : Tmp} {ty : TypeId} {pos : String} {af : Array Edge} {x y z : Operand} {t kt et : TypeId}
end
/-! ### for the laws -/
end Go.Proofs.Ythjkhnhiciamaaa

namespace Go.Proofs.Ythjkhnhiciamaaa
open Go.RowKit Go.ChangeShapes Go.WideShapes Go.ChangeAt
/-! ### members that come in -/
theorem open_mbL {H : Type} {enc : TypeId × Value → H} {P : Program} {w : World} {base : Nat} {spare : Nat → Bool} {held : Bool} {t tn ti e : TypeId} {f0 f1 : Field} {fuel : Nat} {cs : List Value} {x : DataW H × List MemPlace} (T : IdTy P ti e) (hc : P.cellsOf ti = 32) (hce : P.cellsOf e = 1) (hn : P.underlying tn = some (.int .i64)) (hcn : P.cellsOf tn = 1)
    (ht : P.underlying t = some (.struct #[f0, f1])) (h0 : f0.type = tn) (h1 : f1.type = ti) (o0 : f0.offset = 0) (o1 : f1.offset = 1) (hct : P.cellsOf t = 33) (h : DataW.trod enc P w base spare held fuel t cs = some x) : ∃ l : Mb, cs = (mbArr l).toList := by
  obtain ⟨xs, n, rfl, _, hl, hxl, hel⟩ := DataW.trod_struct ht h
  rw [hct] at hl
  have hx2 : xs.length = 2 := by simpa using hxl
  have e0 := hel 0 f0 rfl
  have e1 := hel 1 f1 rfl
  rw [h0, o0, hcn, List.getElem?_eq_getElem (by omega)] at e0
  rw [h1, o1, hc, List.getElem?_eq_getElem (by omega)] at e1
  obtain ⟨k, hk, _⟩ := DataW.trod_int hn e0
  obtain ⟨a, ha⟩ := open_idL T hc hce e1
  refine ⟨(k, a), ?_⟩
  rw [mbArr_list, ← ha]
  have hdrop : (cs.drop 1).take 32 = cs.drop 1 := List.take_of_length_le (by rw [List.length_drop]; omega)
  have hsplit : cs = (cs.drop 0).take 1 ++ cs.drop 1 := by
    rw [List.drop_zero, List.take_append_drop]
  rw [hk] at hsplit
  rw [hdrop]
  exact hsplit
theorem open_mb {H : Type} {enc : TypeId × Value → H} {P : Program} {W : World} {r : Reach} {b0 : Nat} {t tn ti e : TypeId} {f0 f1 : Field} {v : Value} {d : DataW H} {ps : List MemPlace} (T : IdTy P ti e) (hc : P.cellsOf ti = 32) (hce : P.cellsOf e = 1) (hn : P.underlying tn = some (.int .i64)) (hcn : P.cellsOf tn = 1)
    (ht : P.underlying t = some (.struct #[f0, f1])) (h0 : f0.type = tn) (h1 : f1.type = ti) (o0 : f0.offset = 0) (o1 : f1.offset = 1) (hct : P.cellsOf t = 33)
    (hval : Value.okWide P W r b0 t v) (h : DataW.Trod enc P W 0 (fun _ => true) true t v d ps) : ∃ l : Mb, v = .agg (mbArr l) := by
  have hv : ∃ cs, v = .agg cs := by
    unfold Value.okWide at hval
    simp only [ht] at hval
    obtain ⟨cs, h9, _⟩ := hval
    exact ⟨cs, h9⟩
  obtain ⟨cs, rfl⟩ := hv
  obtain ⟨fuel, hf⟩ := h
  obtain ⟨l, hl⟩ := open_mbL T hc hce hn hcn ht h0 h1 o0 o1 hct hf
  refine ⟨l, ?_⟩
  have : cs.toList = (mbArr l).toList := by simpa [Value.cells] using hl
  rw [Array.toList_inj.1 this]
theorem open_mbs {H : Type} {enc : TypeId × Value → H} {P : Program} {W : World} {r : Reach} {b0 : Nat} {ts t tn ti e : TypeId} {f0 f1 : Field} {v : Value} {d : DataW H} {ps : List MemPlace} (T : IdTy P ti e) (hc : P.cellsOf ti = 32) (hce : P.cellsOf e = 1) (hn : P.underlying tn = some (.int .i64)) (hcn : P.cellsOf tn = 1)
    (hts : P.underlying ts = some (.slice t)) (ht : P.underlying t = some (.struct #[f0, f1])) (h0 : f0.type = tn) (h1 : f1.type = ti) (o0 : f0.offset = 0) (o1 : f1.offset = 1) (hct : P.cellsOf t = 33)
    (hval : Value.okWide P W r b0 ts v) (h : DataW.Trod enc P W 0 (fun _ => true) true ts v d ps) : ∃ ls : List Mb, RdZ W v 33 ls.length (mbCells ls) := by
  obtain ⟨a, n, c, rfl⟩ := okWide_slice hts hval
  obtain ⟨fuel, hf⟩ := h
  rcases Go.Deep.open_slice hts hf with ⟨hcs, _⟩ | ⟨a', len, cap, m, k, D, Pl, hcs, _, hl, _, hm, _, hel⟩
  · have : Value.slice a n c = .slice none 0 0 := by simpa [Value.cells] using hcs
    exact ⟨[], rfl, .inl ⟨this, rfl⟩⟩
  · have hv : Value.slice a n c = .slice (some a') len cap := by simpa [Value.cells] using hcs
    have hml : len ≤ m := by rw [hm]; split <;> omega
    have each : ∀ i, ∃ l : Mb, i < len → Has W (a'.add (i * 33)) (mbArr l) := fun i => by
      by_cases hi : i < len
      · obtain ⟨cs', hc1, hc2⟩ := hel i (by omega)
        obtain ⟨l, rfl⟩ := open_mbL T hc hce hn hcn ht h0 h1 o0 o1 hct hc2
        refine ⟨l, fun _ j u hj => ?_⟩
        rw [hct] at hc1
        obtain ⟨_, hlen, hall⟩ := World.cells?_some hc1
        have hj33 : j < 33 := by have := (Array.getElem?_eq_some_iff.1 hj).1; rw [mbArr_size] at this; exact this
        have := hall j hj33
        rw [this, Array.getElem?_toList]; exact hj
      · exact ⟨zMb, fun h9 => absurd h9 hi⟩
    obtain ⟨L, hL⟩ := Classical.axiomOfChoice each
    refine ⟨(List.range len).map L, ?_, .inr ⟨a', cap, by rw [hv]; simp, by simpa using hl, ?_⟩⟩
    · rw [mbCells_len]
    · refine has_flat _ 33 (by decide) mbL_len _ fun i hi => ?_
      have hi' : i < len := by simpa using hi
      have h9 : ((List.range len).map L)[i] = L i := by simp
      rw [h9]
      exact hL i hi'
end Go.Proofs.Ythjkhnhiciamaaa

namespace Go.Proofs.Ythjkhnhiciamaaa
open Go.RowKit
/-! ### the closest of those that are known -/
/-- on the way from s9 to t9, and neither -/
def btw (s9 t9 : Id) (x : Mb) : Bool := decide (x.2 ≠ t9) && (decide (x.2 ≠ s9) && inB x.2 s9 t9)
/-- one step: only a longer way counts -/
def csS (s9 : Id) (p : Mb × Id) (m : Mb) : Mb × Id := bif decide (p.2.toNat < fd s9 m.2) then (m, m.2 - s9) else p
def csK (s9 : Id) (r : List Mb) : Mb × Id := r.foldl (csS s9) (zMb, 0#256)
abbrev onW (s9 t9 : Id) (l : List Mb) : List Mb := l.filter (btw s9 t9)
def csE (s9 t9 : Id) (l : List Mb) : Int := bif (onW s9 t9 l).isEmpty then 6 else 0
def csM (s9 t9 : Id) (l : List Mb) : Mb := (csK s9 (onW s9 t9 l)).1
/-! the reference's -/
/-! the laws: nearer; with one more; in another order -/
/-! ### where fingers point to, their ideals -/
/-! ### an iterator that is filtered -/
end Go.Proofs.Ythjkhnhiciamaaa

namespace Go.Proofs.Ythjkhnhiciamaaa
open Go.RowKit
/-! ### contracts over the caller's own of functions with marks -/
section
variable {P : Program} {a : Act} {w w0 : World} {N : Nat} {L : List (Nat × Value)} {B : List Own} {fn : Func} {T : Asrt} {R : Ending → World → Prop}
end
/-! ### a field of a slice's element -/
theorem RdZ.elF {w : World} {v : Value} {sz n : Nat} {xs : List Value} (h : RdZ w v sz n xs) (j off m : Nat) (hj : j < n) (hz : 0 < sz) {C D : Array Value} (hC : ((xs.drop (j * sz)).take sz).toArray = C) (hD : C.extract off (off + m) = D) : Has w (elAddr v (j * sz + off)) D := by
  have h1 := (h.el j hj hz hC).sub off m hD
  obtain ⟨p, q, c, rfl⟩ := h.some (by omega)
  have e : (elAddr (.slice (Option.some p) q c) (j * sz)).add off = elAddr (.slice (Option.some p) q c) (j * sz + off) := add_add _ _ _
  rwa [e] at h1
end Go.Proofs.Ythjkhnhiciamaaa
