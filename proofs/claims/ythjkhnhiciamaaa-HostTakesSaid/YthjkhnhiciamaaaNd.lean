/- Nodes: which may be, what hearing, following, dropping and pointing make of them, and that what may be stays such; nodes that come in; no Go in it. -/
import Derived.Test.YthjkhnhiciamaaaRg
set_option linter.unusedVariables false
set_option linter.unusedSimpArgs false
set_option linter.unusedSectionVars false
namespace Go.Proofs.Ythjkhnhiciamaaa
open Go.RowKit
/-! ### nodes -/
structure Nd where
  me : Mb
  pr : Mb
  sc : List Mb
  fg : List Mb
def zNd : Nd := ⟨zMb, zMb, [], []⟩
def nilV : Value := .slice none 0 0
def ndL (m p : Mb) (vs vf : Value) : List Value := mbL m ++ (mbL p ++ [vs, vf])
def ndArr (m p : Mb) (vs vf : Value) : Array Value := (ndL m p vs vf).toArray
theorem ndL_len (m p : Mb) (vs vf : Value) : (ndL m p vs vf).length = 68 := by simp [ndL, mbL_len]
theorem ndArr_size (m p : Mb) (vs vf : Value) : (ndArr m p vs vf).size = 68 := by simp [ndArr, ndL_len]
theorem rd_one {w : World} {v : Value} {sz n : Nat} {xs : List Value} (h : RdZ w v sz n xs) : v.oneCell' = true := by
  obtain ⟨a, c, rfl⟩ := h.len
  rfl
/-! builds -/
section
variable {P : Program} {ρ : Operand → Value} {d : Option Tmp} {ty : TypeId} {pos : String} {af : Array Edge} {g : Option (Nat × Bool)} {x y z : Operand} {t : TypeId}
end
end Go.Proofs.Ythjkhnhiciamaaa

namespace Go.Proofs.Ythjkhnhiciamaaa
open Go.RowKit
/-! ### which nodes may be -/
def mayB (m : Mb) : Bool := decide (0 ≤ m.1) && decide (m.1 < 16)
def hasB (l : List Mb) (no : Int) : Bool := l.any fun x => decide (x.1 = no)
def badO (l : List Mb) (no : Int) (d : Nat) : Bool := !mayB (l.getD d zMb) || (decide ((l.getD d zMb).1 = no) || hasB (l.take d) (l.getD d zMb).1)
def othL (l : List Mb) (no : Int) : Bool := (List.range l.length).all fun d => !badO l no d
structure Oth (l : List Mb) (no : Int) : Prop where
  may : ∀ x ∈ l, 0 ≤ x.1 ∧ x.1 < 16
  ne : ∀ x ∈ l, x.1 ≠ no
  nd : l.Pairwise fun a b => a.1 ≠ b.1
def preB (p : Mb) (no : Int) : Bool := decide (p = nMb) || (mayB p && decide (p.1 ≠ no))
def sucB (l : List Mb) (m : Mb) : Bool := decide (l = [m]) || (decide (1 ≤ l.length) && (decide (l.length ≤ 4) && othL l m.1))
def finB (l : List Mb) (no : Int) : Bool := decide (l.length ≤ 16) && othL l no
def rightN (n : Nd) : Bool := mayB n.me && (preB n.pr n.me.1 && (sucB n.sc n.me && finB n.fg n.me.1))
structure RN (n : Nd) : Prop where
  me : 0 ≤ n.me.1 ∧ n.me.1 < 16
  pr : n.pr = nMb ∨ ((0 ≤ n.pr.1 ∧ n.pr.1 < 16) ∧ n.pr.1 ≠ n.me.1)
  sc : n.sc = [n.me] ∨ (1 ≤ n.sc.length ∧ n.sc.length ≤ 4 ∧ Oth n.sc n.me.1)
  fg : n.fg.length ≤ 16 ∧ Oth n.fg n.me.1
theorem RN.len {n : Nd} (h : RN n) : 1 ≤ n.sc.length ∧ n.sc.length ≤ 4 := by
  rcases h.sc with h | h
  · rw [h]; exact ⟨Nat.le_refl _, by show 1 ≤ 4; omega⟩
  · exact ⟨h.1, h.2.1⟩
/-! ### what the calls come to -/
def nxI (n : Nd) (x : Id) : Bool := inB x n.me.2 (n.sc.getD 0 zMb).2
def nxC (n : Nd) (x : Id) : Mb := bif decide (csE n.me.2 x (n.fg ++ n.sc) = 0) then csM n.me.2 x (n.fg ++ n.sc) else n.sc.getD 0 zMb
def nxM (n : Nd) (x : Id) : Mb := bif rightN n then (bif nxI n x then n.sc.getD 0 zMb else nxC n x) else zMb
/-! following -/
def orA (l : List Mb) (me : Mb) : List Mb := bif decide (l.length = 0) then [me] else l
/-! the iterator that stops -/
/-! following, as the reference does -/
/-! dropping, pointing -/
/-- the reference's: the own number drops nothing -/
def goneR (nos : List Int) (no : Int) (x : Mb) : Bool := nos.any fun k => decide (k = x.1) && decide (k ≠ no)
def withL (l : List Mb) (nos : List Int) (no : Int) : List Mb := l.filter fun x => !goneR nos no x
def rdP (n : Nd) (nos : List Int) : Mb := bif !decide (n.pr = nMb) && decide ((withL [n.pr] nos n.me.1).length = 0) then nMb else n.pr
/-! ### P9.6: what may be stays such -/
theorem Oth.filter {l : List Mb} {no : Int} (h : Oth l no) (p : Mb → Bool) : Oth (l.filter p) no :=
  ⟨fun x hx => h.may x ((List.mem_filter.1 hx).1), fun x hx => h.ne x ((List.mem_filter.1 hx).1), h.nd.filter p⟩
/-! the four, as they come back -/
end Go.Proofs.Ythjkhnhiciamaaa

namespace Go.Proofs.Ythjkhnhiciamaaa
open Go.RowKit
/-! ### what the walks of package node want -/
theorem St.add {w0 w w' : World} {B C : List Own} (s : St w0 B w) (t : St w C w') : St w0 (C ++ B) w' := by
  refine s.join t.ext C (fun p hp => ?_) (fun p hp k hk => t.own p hp k hk) t.nd
  have h := t.has p hp
  cases p with
  | blk b o => exact h
  | sl v e sz n xs => exact Owns.low h s.ext.le
  | grp ks S => exact h
theorem Tab.of_mem {w0 w : World} {B : List Own} (s : St w0 B w) {b : Nat} {C : Array Value} {u : TypeId} (h : Own.blk b (.cells C u) ∈ B) : Tab w b C := ⟨u, (0, 0), s.has _ h⟩
/-! lists put together -/
/-! those that go, in place -/
/-! numbers -/
section
variable {P : Program} {ρ : Operand → Value} {d : Option Tmp} {ty : TypeId} {pos : String} {af : Array Edge} {g : Option (Nat × Bool)} {x y z : Operand} {t : TypeId}
end
end Go.Proofs.Ythjkhnhiciamaaa
namespace Go.Proofs.Ythjkhnhiciamaaa
end Go.Proofs.Ythjkhnhiciamaaa
namespace Go.Proofs.Ythjkhnhiciamaaa
open Go.RowKit
theorem rd_size {w : World} {v : Value} {sz n : Nat} {xs : List Value} (h : RdZ w v sz n xs) : v.cells.size = 1 := by obtain ⟨a, c, rfl⟩ := h.len; rfl
theorem rd_cells {w : World} {v : Value} {sz n : Nat} {xs : List Value} (h : RdZ w v sz n xs) : v.cells.toList = [v] := by obtain ⟨a, c, rfl⟩ := h.len; rfl
end Go.Proofs.Ythjkhnhiciamaaa
namespace Go.Proofs.Ythjkhnhiciamaaa
open Go.RowKit
section
variable {P : Program} {a : Act} {w w0 : World} {N : Nat} {L : List (Nat × Value)} {B : List Own} {fn : Func} {T : Asrt}
end
end Go.Proofs.Ythjkhnhiciamaaa
namespace Go.Proofs.Ythjkhnhiciamaaa
end Go.Proofs.Ythjkhnhiciamaaa
namespace Go.Proofs.Ythjkhnhiciamaaa
open Go.RowKit
/-- a field of a value, of one cell -/
structure FldT (P : Program) (t : TypeId) (f off : Nat) (tf : TypeId) : Prop where
  has : ∃ fields fd, P.underlying t = some (.struct fields) ∧ fields[f]? = some fd ∧ fd.type = tf ∧ fd.offset = off
/-! the reference's rights -/
/-! alike -/
/-! the reference's hearing -/
/-! the reference's following -/
/-- the reference's node: the fingers stay -/
def FolR (w : World) (M : TypeId) (a p : Mb) (l : List Mb) (vf : Value) : Asrt := fun v w' => ∃ vo, v = .agg (ndArr a p vo vf) ∧ Owns w' w.heap.size M 33 vo l.length (mbCells l)
/-! the reference's dropping -/
def DrR (w : World) (M : TypeId) (a p : Mb) (s f : List Mb) : Asrt := fun v w' => ∃ vs vf, v = .agg (ndArr a p vs vf) ∧ St w [.sl vs M 33 s.length (mbCells s), .sl vf M 33 f.length (mbCells f)] w'
end Go.Proofs.Ythjkhnhiciamaaa
namespace Go.Proofs.Ythjkhnhiciamaaa
end Go.Proofs.Ythjkhnhiciamaaa
namespace Go.Proofs.Ythjkhnhiciamaaa
open Go.RowKit
/-- to be read -/
def FolD (a p : Mb) (l : List Mb) (vf : Value) : Asrt := fun v w => ∃ vo, v = .agg (ndArr a p vo vf) ∧ RdZ w vo 33 l.length (mbCells l)
theorem FolD.mono (a p : Mb) (l : List Mb) (vf : Value) : Mono (FolD a p l vf) := fun _ _ _ ⟨vo, h1, h2⟩ hE => ⟨vo, h1, h2.keep hE⟩
theorem FolR.d {w w' : World} {M : TypeId} {a p : Mb} {l : List Mb} {vf v : Value} (h : FolR w M a p l vf v w') : FolD a p l vf v w' := by obtain ⟨vo, h1, h2⟩ := h; exact ⟨vo, h1, RdZ.of_own h2⟩
def DrD (a p : Mb) (s f : List Mb) : Asrt := fun v w => ∃ vs vf, v = .agg (ndArr a p vs vf) ∧ RdZ w vs 33 s.length (mbCells s) ∧ RdZ w vf 33 f.length (mbCells f)
theorem DrD.mono (a p : Mb) (s f : List Mb) : Mono (DrD a p s f) := fun _ _ _ ⟨vs, vf, h1, h2, h3⟩ hE => ⟨vs, vf, h1, h2.keep hE, h3.keep hE⟩
theorem DrR.d {w w' : World} {M : TypeId} {a p : Mb} {s f : List Mb} {v : Value} (h : DrR w M a p s f v w') : DrD a p s f v w' := by
  obtain ⟨vs, vf, h1, h2⟩ := h
  exact ⟨vs, vf, h1, RdZ.of_own (h2.getSl 0 rfl), RdZ.of_own (h2.getSl 1 rfl)⟩
end Go.Proofs.Ythjkhnhiciamaaa
namespace Go.Proofs.Ythjkhnhiciamaaa
open Go.RowKit
/-! a node with rows, in a tuple: its rows by themselves -/
/-! several nodes, with their rows -/
abbrev N3 := Nd × Value × Value
def z3 : N3 := (zNd, nilV, nilV)
def n3L (x : N3) : List Value := ndL x.1.me x.1.pr x.2.1 x.2.2
def n3Cells (l : List N3) : List Value := l.flatMap n3L
theorem n3L_len (x : N3) : (n3L x).length = 68 := ndL_len _ _ _ _
def RdN (w : World) (x : N3) : Prop := RdZ w x.2.1 33 x.1.sc.length (mbCells x.1.sc) ∧ RdZ w x.2.2 33 x.1.fg.length (mbCells x.1.fg)
end Go.Proofs.Ythjkhnhiciamaaa

namespace Go.Proofs.Ythjkhnhiciamaaa
open Go.RowKit Go.ChangeShapes Go.WideShapes Go.ChangeAt
/-! ### nodes and numbers that come in -/
theorem open_mbsL {H : Type} {enc : TypeId × Value → H} {P : Program} {W : World} {ts t tn ti e : TypeId} {f0 f1 : Field} {fuel : Nat} {cs : List Value} {x : DataW H × List MemPlace} (T : IdTy P ti e) (hc : P.cellsOf ti = 32) (hce : P.cellsOf e = 1) (hn : P.underlying tn = some (.int .i64)) (hcn : P.cellsOf tn = 1)
    (hts : P.underlying ts = some (.slice t)) (ht : P.underlying t = some (.struct #[f0, f1])) (h0 : f0.type = tn) (h1 : f1.type = ti) (o0 : f0.offset = 0) (o1 : f1.offset = 1) (hct : P.cellsOf t = 33)
    (hf : DataW.trod enc P W 0 (fun _ => true) true fuel ts cs = some x) : ∃ (v : Value) (ls : List Mb), cs = [v] ∧ RdZ W v 33 ls.length (mbCells ls) := by
  rcases Go.Deep.open_slice hts hf with ⟨hcs, _⟩ | ⟨a', len, cap, m, k, D, Pl, hcs, _, hl, _, hm, _, hel⟩
  · exact ⟨_, [], hcs, rfl, .inl ⟨rfl, rfl⟩⟩
  · have hml : len ≤ m := by rw [hm]; split <;> omega
    have each : ∀ i, ∃ l : Mb, i < len → Has W (a'.add (i * 33)) (mbArr l) := fun i => by
      by_cases hi : i < len
      · obtain ⟨cs', hc1, hc2⟩ := hel i (by omega)
        obtain ⟨l, rfl⟩ := open_mbL T hc hce hn hcn ht h0 h1 o0 o1 hct hc2
        refine ⟨l, fun _ j u hj => ?_⟩
        rw [hct] at hc1
        obtain ⟨_, hlen, hall⟩ := World.cells?_some hc1
        have hj33 : j < 33 := by have := (Array.getElem?_eq_some_iff.1 hj).1; rw [mbArr_size] at this; exact this
        have := hall j hj33
        rw [this, Array.getElem?_toList]; exact hj
      · exact ⟨zMb, fun h9 => absurd h9 hi⟩
    obtain ⟨L, hL⟩ := Classical.axiomOfChoice each
    refine ⟨_, (List.range len).map L, hcs, ?_, .inr ⟨a', cap, by simp, by simpa using hl, ?_⟩⟩
    · rw [mbCells_len]
    · refine has_flat _ 33 (by decide) mbL_len _ fun i hi => ?_
      have hi' : i < len := by simpa using hi
      have h9 : ((List.range len).map L)[i] = L i := by simp
      rw [h9]
      exact hL i hi'
theorem take_nd {cs a b c d : List Value} (hl : cs.length = 68) (h0 : (cs.drop 0).take 33 = a) (h1 : (cs.drop 33).take 33 = b) (h2 : (cs.drop 66).take 1 = c) (h3 : (cs.drop 67).take 1 = d) : cs = a ++ (b ++ (c ++ d)) := by
  subst h0; subst h1; subst h2; subst h3
  have e3 : (cs.drop 67).take 1 = cs.drop 67 := List.take_of_length_le (by rw [List.length_drop]; omega)
  have e2 : (cs.drop 66).take 1 ++ cs.drop 67 = cs.drop 66 := by
    have := List.take_append_drop 1 (cs.drop 66)
    rwa [List.drop_drop] at this
  have e1 : (cs.drop 33).take 33 ++ cs.drop 66 = cs.drop 33 := by
    have := List.take_append_drop 33 (cs.drop 33)
    rwa [List.drop_drop] at this
  rw [e3, e2, e1, List.drop_zero, List.take_append_drop]
theorem open_node {H : Type} {enc : TypeId × Value → H} {P : Program} {W : World} {r : Reach} {b0 : Nat} {tm ts t tn ti e : TypeId} {g0 g1 g2 g3 f0 f1 : Field} {v : Value} {d : DataW H} {ps : List MemPlace} (T : IdTy P ti e) (hc : P.cellsOf ti = 32) (hce : P.cellsOf e = 1) (hn : P.underlying tn = some (.int .i64)) (hcn : P.cellsOf tn = 1)
    (hcs : P.cellsOf ts = 1) (hts : P.underlying ts = some (.slice t)) (ht : P.underlying t = some (.struct #[f0, f1])) (h0 : f0.type = tn) (h1 : f1.type = ti) (o0 : f0.offset = 0) (o1 : f1.offset = 1) (hct : P.cellsOf t = 33)
    (htm : P.underlying tm = some (.struct #[g0, g1, g2, g3])) (ht0 : g0.type = t) (ht1 : g1.type = t) (ht2 : g2.type = ts) (ht3 : g3.type = ts) (ho0 : g0.offset = 0) (ho1 : g1.offset = 33) (ho2 : g2.offset = 66) (ho3 : g3.offset = 67) (hctm : P.cellsOf tm = 68)
    (hval : Value.okWide P W r b0 tm v) (h : DataW.Trod enc P W 0 (fun _ => true) true tm v d ps) : ∃ (n : Nd) (vs vf : Value), v = .agg (ndArr n.me n.pr vs vf) ∧ RdZ W vs 33 n.sc.length (mbCells n.sc) ∧ RdZ W vf 33 n.fg.length (mbCells n.fg) := by
  have hv : ∃ cs, v = .agg cs := by
    unfold Value.okWide at hval
    simp only [htm] at hval
    obtain ⟨cs, h9, _⟩ := hval
    exact ⟨cs, h9⟩
  obtain ⟨cs, rfl⟩ := hv
  obtain ⟨fuel, hf⟩ := h
  obtain ⟨xs, n, hcells, _, hl, hxl, hel⟩ := DataW.trod_struct htm hf
  have hcl : cs.toList.length = 68 := by rw [← hctm]; simpa [Value.cells] using hl
  have hx4 : xs.length = 4 := by simpa using hxl
  have e0 := hel 0 g0 rfl
  have e1 := hel 1 g1 rfl
  have e2 := hel 2 g2 rfl
  have e3 := hel 3 g3 rfl
  rw [ht0, ho0, hct, List.getElem?_eq_getElem (by omega)] at e0
  rw [ht1, ho1, hct, List.getElem?_eq_getElem (by omega)] at e1
  rw [ht2, ho2, hcs, List.getElem?_eq_getElem (by omega)] at e2
  rw [ht3, ho3, hcs, List.getElem?_eq_getElem (by omega)] at e3
  obtain ⟨a, ha⟩ := open_mbL T hc hce hn hcn ht h0 h1 o0 o1 hct e0
  obtain ⟨b, hb⟩ := open_mbL T hc hce hn hcn ht h0 h1 o0 o1 hct e1
  obtain ⟨u, ls, hu, hls⟩ := open_mbsL T hc hce hn hcn hts ht h0 h1 o0 o1 hct e2
  obtain ⟨u2, ls2, hu2, hls2⟩ := open_mbsL T hc hce hn hcn hts ht h0 h1 o0 o1 hct e3
  refine ⟨⟨a, b, ls, ls2⟩, u, u2, ?_, hls, hls2⟩
  simp only [Value.cells] at ha hb hu hu2
  have key : cs.toList = (ndArr a b u u2).toList := take_nd hcl ha hb hu hu2
  rw [Array.toList_inj.1 key]
theorem flat_int {α : Type} (f : α → Value) : ∀ l : List α, l.flatMap (fun x => [f x]) = l.map f
  | [] => rfl
  | x :: l => by rw [List.flatMap_cons, flat_int f l]; rfl
theorem open_nos {H : Type} {enc : TypeId × Value → H} {P : Program} {W : World} {r : Reach} {b0 : Nat} {t e : TypeId} {v : Value} {d : DataW H} {ps : List MemPlace} (ht : P.underlying t = some (.slice e)) (he : P.underlying e = some (.int .i64)) (hc : P.cellsOf e = 1)
    (hval : Value.okWide P W r b0 t v) (h : DataW.Trod enc P W 0 (fun _ => true) true t v d ps) : ∃ qs : List Int, RdZ W v 1 qs.length (qs.map (Value.int .i64)) := by
  obtain ⟨a, n, c, rfl⟩ := okWide_slice ht hval
  obtain ⟨fuel, hf⟩ := h
  rcases Go.Deep.open_slice ht hf with ⟨hcs, _⟩ | ⟨a', len, cap, m, k, D, Pl, hcs, _, hl, _, hm, _, hel⟩
  · have : Value.slice a n c = .slice none 0 0 := by simpa [Value.cells] using hcs
    exact ⟨[], rfl, .inl ⟨this, rfl⟩⟩
  · have hv : Value.slice a n c = .slice (some a') len cap := by simpa [Value.cells] using hcs
    have hml : len ≤ m := by rw [hm]; split <;> omega
    have each : ∀ i, ∃ x : Int, i < len → Has W (a'.add (i * 1)) #[.int .i64 x] := fun i => by
      by_cases hi : i < len
      · obtain ⟨cs', hc1, hc2⟩ := hel i (by omega)
        obtain ⟨x, hx, _⟩ := DataW.trod_int he hc2
        subst hx
        refine ⟨x, fun _ j u hj => ?_⟩
        rw [hc] at hc1
        obtain ⟨_, hlen, hall⟩ := World.cells?_some hc1
        have hj1 : j < 1 := (Array.getElem?_eq_some_iff.1 hj).1
        have := hall j hj1
        rw [this]; simpa using hj
      · exact ⟨0, fun h9 => absurd h9 hi⟩
    obtain ⟨L, hL⟩ := Classical.axiomOfChoice each
    refine ⟨(List.range len).map L, by simp, .inr ⟨a', cap, by rw [hv]; simp, by simpa using hl, ?_⟩⟩
    have := has_flat (fun x : Int => [Value.int .i64 x]) 1 (by decide) (fun _ => rfl) (w := W) (p := a') ((List.range len).map L) fun i hi => by
      have hi' : i < len := by simpa using hi
      have := hL i hi'
      simpa using this
    rwa [flat_int] at this
end Go.Proofs.Ythjkhnhiciamaaa
