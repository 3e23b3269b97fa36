/- Entries, stacks and their bytes: what may be, what is written, what is read; slices of entries; no Go in it. -/
import Derived.Lib.AppendZeros
import Derived.Deep.Slices
import Derived.Test.YtobfeflheaobiaaDoorPr
set_option linter.unusedVariables false
set_option linter.unusedSimpArgs false
set_option linter.unusedSectionVars false
namespace Go.Proofs.YtobfeflheaobiaaDoor
open Go.RowKit
/-! ### entries: a kind, an identifier, a host -/
abbrev Ent := Int × Id × Int
def eArr (e : Ent) : Array Value := (Value.int .i64 e.1 :: ((idArr e.2.1).toList ++ [.int .i64 e.2.2])).toArray
theorem eArr_size (e : Ent) : (eArr e).size = 34 := by simp [eArr]
theorem eArr_list (e : Ent) : (eArr e).toList = Value.int .i64 e.1 :: ((idArr e.2.1).toList ++ [.int .i64 e.2.2]) := rfl
theorem eArr_ones (e : Ent) : ∀ v ∈ (eArr e).toList, v.oneCell' = true := fun v hv => by
  rw [eArr_list] at hv
  rcases List.mem_cons.1 hv with rfl | hv
  · simp [Value.oneCell', Value.cells]
  · rcases List.mem_append.1 hv with hv | hv
    · rw [idArr_bytes] at hv; exact bytesF_ones _ _ v hv
    · rw [List.mem_singleton] at hv; subst hv; simp [Value.oneCell', Value.cells]
theorem eArr_kind (e : Ent) : (eArr e)[0]? = some (.int .i64 e.1) := rfl
theorem eArr_host (e : Ent) : (eArr e)[33]? = some (.int .i64 e.2.2) := by
  rw [← Array.getElem?_toList, eArr_list, List.getElem?_cons_succ, List.getElem?_append_right (by simp)]
  simp
theorem eArr_id (e : Ent) : (eArr e).extract 1 (1 + 32) = idArr e.2.1 := by
  apply Array.ext'
  rw [Array.toList_extract, List.extract_eq_take_drop, eArr_list]
  simp
theorem eArr_inj {x y : Ent} (h : (eArr x).toList = (eArr y).toList) : x = y := by
  have h' := Array.toList_inj.1 h
  have h0 := eArr_kind x; rw [h', eArr_kind] at h0
  have h1 := eArr_host x; rw [h', eArr_host] at h1
  have h2 := eArr_id x; rw [h', eArr_id] at h2
  simp at h0 h1
  have h3 := idArr_inj h2
  exact Prod.ext h0.symm (Prod.ext h3.symm h1.symm)
theorem eEq (x y : Ent) : decide (x = y) = true ↔ (eArr x).toList = (eArr y).toList := by
  rw [decide_eq_true_eq]; exact ⟨fun h => by rw [h], eArr_inj⟩
def eCells (l : List Ent) : List Value := l.flatMap fun e => (eArr e).toList
theorem eCells_len (l : List Ent) : (eCells l).length = l.length * 34 := cells_len _ 34 (fun x => by rw [Array.length_toList, eArr_size]) l
theorem eCells_app (l r : List Ent) : eCells (l ++ r) = eCells l ++ eCells r := List.flatMap_append
theorem eCells_one (e : Ent) : eCells [e] = (eArr e).toList := by simp [eCells]
theorem eCells_ones (l : List Ent) : ∀ u ∈ eCells l, u.oneCell' = true := fun u hu => by
  obtain ⟨x, _, hx⟩ := List.mem_flatMap.1 hu
  exact eArr_ones x u hx
theorem e_el (l : List Ent) (j : Nat) (hj : j < l.length) : (((eCells l).drop (j * 34)).take 34).toArray = eArr l[j] := by
  unfold eCells
  rw [cells_el _ 34 (fun x => by rw [Array.length_toList, eArr_size]) l j hj]
theorem re_take {w : World} {v : Value} {ls : List Ent} (h : RdZ w v 34 ls.length (eCells ls)) (k : Nat) (hk : k ≤ ls.length) : RdZ w (cutV v k) 34 (ls.take k).length (eCells (ls.take k)) := by
  have := h.cut k hk
  unfold eCells at this
  rw [cells_take _ 34 (fun x => by rw [Array.length_toList, eArr_size])] at this
  rw [List.length_take, Nat.min_eq_left hk]
  exact this
/-! ### which may be -/
def isE (e : Ent) : Bool := (decide (e.1 = 1) && decide (e.2.2 = 0)) || (decide (e.1 = 2) && decide (e.2.1 = 0#256) && decide (0 ≤ e.2.2) && decide (e.2.2 < 16))
def rightE (l : List Ent) : Bool := decide (0 < l.length) && decide (l.length ≤ 4) && l.all isE
theorem isE_iff (e : Ent) : isE e = true ↔ (e.1 = 1 ∧ e.2.2 = 0) ∨ (e.1 = 2 ∧ e.2.1 = 0#256 ∧ 0 ≤ e.2.2 ∧ e.2.2 < 16) := by
  unfold isE; simp [and_assoc]
theorem rightE_iff (l : List Ent) : rightE l = true ↔ 0 < l.length ∧ l.length ≤ 4 ∧ ∀ e ∈ l, isE e = true := by
  unfold rightE; rw [Bool.and_eq_true, Bool.and_eq_true, decide_eq_true_eq, decide_eq_true_eq, List.all_eq_true, and_assoc]
/-! ### bytes -/
def idL (a : Id) : List Nat := (List.range 32).map (byteAt a)
def entL (e : Ent) : List Nat := if e.1 = 1 then 1 :: idL e.2.1 else [2, e.2.2.toNat]
/-! ### reading -/
def entM (t : ByteArray) : Int × Ent × Nat :=
  if t.size = 0 then (3, (0, 0#256, 0), 0)
  else if sb t 0 = 1 then
    if t.size < 33 then (3, (0, 0#256, 0), 0) else (0, (1, idOf fun i => sb t (1 + i), 0), 33)
  else if sb t 0 = 2 then
    if t.size < 2 then (3, (0, 0#256, 0), 0) else if 16 ≤ sb t 1 then (5, (0, 0#256, 0), 0) else (0, (2, 0#256, (sb t 1 : Int)), 2)
  else (5, (0, 0#256, 0), 0)
def sufS (s : ByteArray) (n : Nat) : ByteArray := s.extract n s.size
def rdS (s : ByteArray) : Nat → Int × List Ent × Nat
  | 0 => (0, [], 1)
  | k + 1 => if (rdS s k).1 = 0 then
      if (entM (sufS s (rdS s k).2.2)).1 = 0 then (0, (rdS s k).2.1 ++ [(entM (sufS s (rdS s k).2.2)).2.1], (rdS s k).2.2 + (entM (sufS s (rdS s k).2.2)).2.2)
      else ((entM (sufS s (rdS s k).2.2)).1, [], 0)
    else rdS s k
def readM (s : ByteArray) : Int × List Ent × Nat :=
  if s.size = 0 then (3, [], 0) else if sb s 0 < 1 ∨ 4 < sb s 0 then (5, [], 0) else rdS s (sb s 0)
def pushE (l f : List Ent) : Int := if (f.all isE && l.all isE) = true then if f.length + l.length > 4 then 12 else 0 else 1
def pushM (l f : List Ent) : List Ent := if pushE l f = 0 then f ++ l else []
end Go.Proofs.YtobfeflheaobiaaDoor

namespace Go.Proofs.YtobfeflheaobiaaDoor
/-! ### what is written is read -/
/-! ### what is read, written, is what was there -/
end Go.Proofs.YtobfeflheaobiaaDoor

namespace Go.Proofs.YtobfeflheaobiaaDoor
open Go.RowKit Go.ChangeShapes Go.WideShapes Go.ChangeAt
/-! ### entries in the program -/
theorem EqV.up {P : Program} {D : Nat} {e : TypeId} {sz : Nat} {V : List Value → Prop} {vl : List Value → Value} (E : EqV P D e sz V vl) : EqV P (D + 1) e sz V vl :=
  ⟨E.len, E.size, E.part, fun d xs ys w hx hy => by
    have := E.eq (d + 1) xs ys w hx hy
    rwa [show d + (D + 1) = d + 1 + D from by omega]⟩
theorem eArr_f0 (e : Ent) : ((eArr e).toList.drop 0).take 1 = [Value.int .i64 e.1] := rfl
theorem eArr_f1 (e : Ent) : ((eArr e).toList.drop 1).take 32 = (bytesF (byteAt e.2.1) 32).toList := by
  rw [eArr_list, List.drop_succ_cons, List.drop_zero, List.take_append_of_le_length (by simp), List.take_of_length_le (by simp), idArr_bytes]
theorem eArr_f2 (e : Ent) : ((eArr e).toList.drop 33).take 1 = [Value.int .i64 e.2.2] := by
  rw [eArr_list, List.drop_succ_cons, List.drop_append, List.drop_eq_nil_of_le (by simp)]
  simp
theorem eArr_zero : eArr (0, 0#256, 0) = (Value.int .i64 0 :: (List.replicate 32 (Value.int .u8 0) ++ [.int .i64 0])).toArray := by
  unfold eArr; rw [idArr_zero]; rfl
section
variable {P : Program} {a : Act} {w w0 : World} {N : Nat} {L : List (Nat × Value)} {B : List Own} {fn : Func} {T : Asrt}
theorem e_row_tmp2 {p q r t : Tmp} {b n : Nat} {C : Array Value} {u : TypeId} {V U : Value} (i : Nat) (hres : fn.results = #[.cell p t, .tmp q, .tmp r]) (h : Sl N a L) (s : St w0 B w) (hr : Row P t n) (hp : lk L p = some (.pointer (some ⟨b, 0, none⟩))) (hi : B[i]? = some (.blk b (.cells C u))) (hn : C.size = n)
    (hq : lk L q = some V) (hu : lk L r = some U) (hT : T (.tuple #[.agg C, V, U]) w) : bodyPost P fn (Ret w0 T) .ret a w := by
  refine ⟨h.defers, .tuple #[.agg C, V, U], ?_, _, rfl, hT, s.ext⟩
  have hp' : a.tmps[p]?.getD undef = .pointer (some ⟨b, 0, none⟩) := by simpa using h.holds p _ hp
  have hq' : a.tmps[q]?.getD undef = V := by simpa using h.holds q _ hq
  have hu' : a.tmps[r]?.getD undef = U := by simpa using h.holds r _ hu
  simp [results, hres, hp', hq', hu', asAddr, run_load_row hr w b C u (0, 0) (s.get i hi) hn]
end
section
variable {P : Program} {ρ : Operand → Value} {d : Option Tmp} {ty : TypeId} {pos : String} {af : Array Edge} {g : Option (Nat × Bool)} {x y : Operand} {t t' e : TypeId} {k : IntKind} {m n : Int}
def eZ : List (List Value) := [[.int .i64 0], List.replicate 32 (.int .u8 0), [.int .i64 0]]
theorem ru_build_e0 (S : Stt P t eZ) : RunsTo P ⟨d, .build t #[], ty, pos, af, g⟩ ρ (.agg (eArr (0, 0#256, 0))) := by
  have := ru_build_st (P := P) (ρ := ρ) (d := d) (ty := ty) (pos := pos) (af := af) (g := g) (parts := #[]) S [] (by simp) (fun i v hm => by simp at hm) (D := (eArr (0, 0#256, 0)).toList) (by rw [eArr_zero]; rfl)
  simpa using this
theorem ru_build_eh {q r : Int} (S : Stt P t eZ) (hx : ρ x = .int .i64 q) (hy : ρ y = .int .i64 r) : RunsTo P ⟨d, .build t #[(0, x), (2, y)], ty, pos, af, g⟩ ρ (.agg (eArr (q, 0#256, r))) := by
  have := ru_build_st (P := P) (ρ := ρ) (d := d) (ty := ty) (pos := pos) (af := af) (g := g) (parts := #[(0, x), (2, y)]) S [(0, .int .i64 q), (2, .int .i64 r)] (by simp [hx, hy]) (fun i v hm => by
    simp at hm
    rcases hm with ⟨rfl, rfl⟩ | ⟨rfl, rfl⟩
    · exact ⟨_, rfl, rfl⟩
    · exact ⟨_, rfl, rfl⟩) (D := (eArr (q, 0#256, r)).toList) (by rw [eArr_list, idArr_zero]; rfl)
  simpa using this
theorem ru_cap_nil (ht : P.underlying t = some (.slice e)) (hx : ρ x = .slice none 0 0) : RunsTo P ⟨d, .call { callee := .builtin .cap, args := #[x], argTypes := #[t] }, ty, pos, af, g⟩ ρ (.int .i64 0) := fun w => by
  simp [execOp, resolve, invoke, builtin, hx, Sem.run_bind, run_underlying ht, Builtin.cap_, goInt]
theorem ru_slice_nil {sz : Nat} (ht : P.underlying t = some (.slice e)) (he : (P.info? e).map (·.size) = some sz) (hx : ρ x = .slice none 0 0) (hy : ρ y = .int .i64 0) : RunsTo P ⟨d, .slice t x none (some y) none, ty, pos, af, g⟩ ρ (.slice none 0 0) := fun w => by
  simp [execOp, hx, hy, Instr.sliceAt, Instr.slice, Instr.sliceBounds, Instr.sliceBound, asIntOf, Sem.run_bind, run_underlying ht, Instr.sureAddr, run_sizeOf he]
/-- an own slice, cut to nothing -/
theorem ru_slice_own0 {sz n : Nat} {v : Value} {w0 : World} {base : Nat} {u : TypeId} {xs : List Value} (hO : Owns w0 base u sz v n xs) (ht : P.underlying t = some (.slice e)) (he : (P.info? e).map (·.size) = some sz) (hx : ρ x = v) (hy : ρ y = .int .i64 0) : RunsTo P ⟨d, .slice t x none (some y) none, ty, pos, af, g⟩ ρ (cutV v 0) := by
  have h1 := ru_slice_hiZ (P := P) (ρ := ρ) (d := d) (ty := ty) (pos := pos) (af := af) (g := g) (RdZ.of_own hO) 0 ht he hx hy rfl (Nat.zero_le _)
  exact h1
theorem Owns.cut0 {w : World} {base : Nat} {e : TypeId} {sz n : Nat} {v : Value} {xs : List Value} (h : Owns w base e sz v n xs) : Owns w base e sz (cutV v 0) 0 [] := by
  refine ⟨by simp, ?_⟩
  rcases h.2 with ⟨rfl, _⟩ | ⟨g, cap, cur, fz, rfl, h1, h2, h3, h4, h5, h6, _⟩
  · exact .inl ⟨rfl, rfl⟩
  · exact .inr ⟨g, cap, cur, fz, rfl, h1, h2, h3, Nat.zero_le _, h5, h6, by simp⟩
end
section
variable {P : Program} {ops : Array Oper} {Q : Act → World → Prop} {l : List Oper} {a : Act} {w w0 : World} {N : Nat} {L : List (Nat × Value)} {Df : List Deferred} {B : List Own} {d : Tmp} {ty : TypeId} {pos : String} {af : Array Edge} {x y : Operand} {t t' e : TypeId}
/-- append to nil of n zeros -/
theorem s_append_zeros {sz by_ n base : Nat} {kn : IntKind} (h : Sl N a L Df) (ht : P.underlying t = some (.slice e)) (htn : P.underlying t' = some (.int kn)) (E : Elm P e sz by_) (hx : evo L x = some (.slice none 0 0)) (hy : evo L y = some (.int .i64 (n : Int))) (h0 : 0 < n) (hb : n * by_ ≤ 140737488355328) (hb1 : n ≤ 1000000) (hbase : base ≤ w.heap.size) (hd : Nat.blt d N = true)
    (k : ∀ a' w' v' xs, Sl N a' ((d, v') :: L) Df → Ext w w' → Owns w' base e sz v' n xs → Lst P ops Q l a' w') :
    Lst P ops Q (⟨some d, .call { callee := .builtin .append, args := #[x, y], argTypes := #[t, t'] }, ty, pos, af, none⟩ :: l) a w := by
  obtain ⟨i, z, hi, hz, rfl, rfl, hzs⟩ := E.info
  have hpos := E.pos
  have hr := Go.Lib.run_append_nil_zeros (P := P) w t t' ty e i z .i64 kn ht htn hi hz n h0 hpos (by omega) (by omega)
  have hge := grownCap_ge w n 0 e
  obtain ⟨V9, W9, hr9, hE9, hO9⟩ : ∃ V W, (Builtin.append_ #[t, t'] ty #[.slice none 0 0, .int .i64 (n : Int)]).run P w = .ok V W ∧ Ext w W ∧ Owns W base e i.size V n (Builtin.zeroCells z.cells n).toList := by
    refine ⟨_, _, hr, (Ext.refl w).drew.alloc _, by rw [Array.length_toList, size_zeroCells, hzs], .inr ⟨w.heap.size, grownCap w n 0 e, _, (0, 0), rfl, hbase, heap_alloc_new w.drew _, .inl rfl, hge, grownCap_le_maxLen w _ 0 e (by unfold maxLen; omega), ?_, ?_⟩⟩
    · simp only [Array.size_append, size_zeroCells, hzs]
      rw [← Nat.add_mul]
      congr 1
      omega
    · rw [Array.toList_append, List.take_append_of_le_length (by rw [Array.length_toList, size_zeroCells, hzs]; exact Nat.le_refl _), List.take_of_length_le (by rw [Array.length_toList, size_zeroCells, hzs]; exact Nat.le_refl _)]
  refine s_does (R := fun u w'' => u = V9 ∧ w'' = W9) h (by
    unfold Does
    simp only [execOp, resolve, invoke, builtin, Sem.run_bind, Sem.run_pure, Result.andThen_ok, List.map_toArray, List.map_cons, List.map_nil, h.ev hx, h.ev hy, hr9]
    first | exact ⟨rfl, rfl⟩ | exact ⟨trivial, rfl⟩ | exact ⟨trivial, trivial⟩ | trivial) hd fun a' w'' u ⟨e1, e2⟩ hs => ?_
  subst e1; subst e2
  exact k _ _ _ _ hs hE9 hO9
end
/-! ### entries that come in -/
theorem open_entL {H : Type} {enc : TypeId × Value → H} {P : Program} {w : World} {base : Nat} {spare : Nat → Bool} {held : Bool} {t tn ti e : TypeId} {f0 f1 f2 : Field} {fuel : Nat} {cs : List Value} {x : DataW H × List MemPlace} (T : IdTy P ti e) (hc : P.cellsOf ti = 32) (hce : P.cellsOf e = 1) (hn : P.underlying tn = some (.int .i64)) (hcn : P.cellsOf tn = 1)
    (ht : P.underlying t = some (.struct #[f0, f1, f2])) (h0 : f0.type = tn) (h1 : f1.type = ti) (h2 : f2.type = tn) (o0 : f0.offset = 0) (o1 : f1.offset = 1) (o2 : f2.offset = 33) (hct : P.cellsOf t = 34) (h : DataW.trod enc P w base spare held fuel t cs = some x) : ∃ l : Ent, cs = (eArr l).toList := by
  obtain ⟨xs, n, rfl, _, hl, hxl, hel⟩ := DataW.trod_struct ht h
  rw [hct] at hl
  have hx2 : xs.length = 3 := by simpa using hxl
  have e0 := hel 0 f0 rfl
  have e1 := hel 1 f1 rfl
  have e2 := hel 2 f2 rfl
  rw [h0, o0, hcn, List.getElem?_eq_getElem (by omega)] at e0
  rw [h1, o1, hc, List.getElem?_eq_getElem (by omega)] at e1
  rw [h2, o2, hcn, List.getElem?_eq_getElem (by omega)] at e2
  obtain ⟨k, hk, _⟩ := DataW.trod_int hn e0
  obtain ⟨a, ha⟩ := open_idL T hc hce e1
  obtain ⟨h9, hh, _⟩ := DataW.trod_int hn e2
  refine ⟨(k, a, h9), ?_⟩
  rw [eArr_list, ← ha]
  have hdrop : cs.drop 33 = [Value.int .i64 h9] := by
    rw [List.take_of_length_le (by rw [List.length_drop]; omega)] at hh
    exact hh
  have hsplit : cs = (cs.drop 0).take 1 ++ ((cs.drop 1).take 32 ++ cs.drop 33) := by
    rw [List.drop_zero, show cs.drop 33 = (cs.drop 1).drop 32 from by rw [List.drop_drop], List.take_append_drop, List.take_append_drop]
  rw [hk, hdrop] at hsplit
  exact hsplit
theorem open_ent {H : Type} {enc : TypeId × Value → H} {P : Program} {W : World} {r : Reach} {b0 : Nat} {t tn ti e : TypeId} {f0 f1 f2 : Field} {v : Value} {d : DataW H} {ps : List MemPlace} (T : IdTy P ti e) (hc : P.cellsOf ti = 32) (hce : P.cellsOf e = 1) (hn : P.underlying tn = some (.int .i64)) (hcn : P.cellsOf tn = 1)
    (ht : P.underlying t = some (.struct #[f0, f1, f2])) (h0 : f0.type = tn) (h1 : f1.type = ti) (h2 : f2.type = tn) (o0 : f0.offset = 0) (o1 : f1.offset = 1) (o2 : f2.offset = 33) (hct : P.cellsOf t = 34)
    (hval : Value.okWide P W r b0 t v) (h : DataW.Trod enc P W 0 (fun _ => true) true t v d ps) : ∃ l : Ent, v = .agg (eArr l) := by
  have hv : ∃ cs, v = .agg cs := by
    unfold Value.okWide at hval
    simp only [ht] at hval
    obtain ⟨cs, h9, _⟩ := hval
    exact ⟨cs, h9⟩
  obtain ⟨cs, rfl⟩ := hv
  obtain ⟨fuel, hf⟩ := h
  obtain ⟨l, hl⟩ := open_entL T hc hce hn hcn ht h0 h1 h2 o0 o1 o2 hct hf
  refine ⟨l, ?_⟩
  have : cs.toList = (eArr l).toList := by simpa [Value.cells] using hl
  rw [Array.toList_inj.1 this]
theorem open_ents {H : Type} {enc : TypeId × Value → H} {P : Program} {W : World} {r : Reach} {b0 : Nat} {ts t tn ti e : TypeId} {f0 f1 f2 : Field} {v : Value} {d : DataW H} {ps : List MemPlace} (T : IdTy P ti e) (hc : P.cellsOf ti = 32) (hce : P.cellsOf e = 1) (hn : P.underlying tn = some (.int .i64)) (hcn : P.cellsOf tn = 1)
    (hts : P.underlying ts = some (.slice t)) (ht : P.underlying t = some (.struct #[f0, f1, f2])) (h0 : f0.type = tn) (h1 : f1.type = ti) (h2 : f2.type = tn) (o0 : f0.offset = 0) (o1 : f1.offset = 1) (o2 : f2.offset = 33) (hct : P.cellsOf t = 34)
    (hval : Value.okWide P W r b0 ts v) (h : DataW.Trod enc P W 0 (fun _ => true) true ts v d ps) : ∃ ls : List Ent, RdZ W v 34 ls.length (eCells ls) := by
  obtain ⟨a, n, c, rfl⟩ := okWide_slice hts hval
  obtain ⟨fuel, hf⟩ := h
  rcases Go.Deep.open_slice hts hf with ⟨hcs, _⟩ | ⟨a', len, cap, m, k, D, Pl, hcs, _, hl, _, hm, _, hel⟩
  · have : Value.slice a n c = .slice none 0 0 := by simpa [Value.cells] using hcs
    exact ⟨[], rfl, .inl ⟨this, rfl⟩⟩
  · have hv : Value.slice a n c = .slice (some a') len cap := by simpa [Value.cells] using hcs
    have hml : len ≤ m := by rw [hm]; split <;> omega
    have each : ∀ i, ∃ l : Ent, i < len → Has W (a'.add (i * 34)) (eArr l) := fun i => by
      by_cases hi : i < len
      · obtain ⟨cs', hc1, hc2⟩ := hel i (by omega)
        obtain ⟨l, rfl⟩ := open_entL T hc hce hn hcn ht h0 h1 h2 o0 o1 o2 hct hc2
        refine ⟨l, fun _ j u hj => ?_⟩
        rw [hct] at hc1
        obtain ⟨_, hlen, hall⟩ := World.cells?_some hc1
        have hj34 : j < 34 := by have := (Array.getElem?_eq_some_iff.1 hj).1; rw [eArr_size] at this; exact this
        have := hall j hj34
        rw [this, Array.getElem?_toList]; exact hj
      · exact ⟨(0, 0#256, 0), fun h9 => absurd h9 hi⟩
    obtain ⟨L, hL⟩ := Classical.axiomOfChoice each
    refine ⟨(List.range len).map L, ?_, .inr ⟨a', cap, by rw [hv]; simp, by simpa using hl, ?_⟩⟩
    · rw [eCells_len]
    · refine has_flat _ 34 (by decide) (fun x => by rw [Array.length_toList, eArr_size]) _ fun i hi => ?_
      have hi' : i < len := by simpa using hi
      have := hL i hi'
      simpa using this
end Go.Proofs.YtobfeflheaobiaaDoor

namespace Go.Proofs.YtobfeflheaobiaaDoor
/-! ### what the walks of entries want -/
theorem isE_one (e : Ent) (h : e.1 = 1) : isE e = decide (e.2.2 = 0) := by
  unfold isE; rw [h]; simp
theorem isE_two (e : Ent) (h : e.1 = 2) : isE e = (decide (e.2.1 = 0#256) && decide (0 ≤ e.2.2) && decide (e.2.2 < 16)) := by
  unfold isE; rw [h]; simp
theorem isE_none (e : Ent) (h : ¬ e.1 = 1) (h2 : ¬ e.1 = 2) : isE e = false := by
  unfold isE; simp [h, h2]
theorem all_no {l : List Ent} {k : Nat} (hk : k < l.length) (hc : (!isE l[k]) = true) : false = l.all isE := by
  symm
  rw [List.all_eq_false]
  exact ⟨l[k], List.getElem_mem hk, by simpa using hc⟩
theorem all_yes {l : List Ent} {k : Nat} (hk : l.length ≤ k) (h : ∀ i (hi : i < l.length), i < k → isE l[i] = true) : true = l.all isE := by
  symm
  rw [List.all_eq_true]
  intro x hx
  obtain ⟨i, hi, e⟩ := List.getElem_of_mem hx
  rw [← e]; exact h i hi (by omega)
/-! ### the reference's record -/
theorem isE_host {e : Ent} (h : isE e = true) (h1 : ¬ e.1 = 1) : e.1 = 2 ∧ e.2.1 = 0#256 ∧ 0 ≤ e.2.2 ∧ e.2.2 < 16 := by
  rcases (isE_iff e).1 h with h | h
  · exact absurd h.1 h1
  · exact h
/-! ### one entry is read -/
/-! ### a stack is read -/
theorem owns_nil (w : World) (base : Nat) (e : TypeId) (sz : Nat) : Owns w base e sz (.slice none 0 0) 0 [] := ⟨by simp, .inl ⟨rfl, rfl⟩⟩
section
variable {t : ByteArray}
end
theorem St.recell {w0 w : World} {B : List Own} {b : Nat} {C D : Array Value} {u : TypeId} (s : St w0 B w) (i : Nat) (hi : B[i]? = some (.blk b (.cells C u))) (e : C = D) : St w0 (B.set i (.blk b (.cells D u))) w := by
  subst e
  have : B.set i (.blk b (.cells C u)) = B := by
    apply List.ext_getElem?
    intro j
    by_cases h : i = j
    · subst h
      have hl := (List.getElem?_eq_some_iff.1 hi).1
      rw [List.getElem?_set_self hl, hi]
    · rw [List.getElem?_set_ne h]
  rw [this]; exact s
section
variable {P : Program} {ρ : Operand → Value} {d : Option Tmp} {ty : TypeId} {pos : String} {af : Array Edge} {g : Option (Nat × Bool)} {x y : Operand} {t : TypeId}
end
/-! ### pushes -/
theorem getD_el {vs : List Value} {k : Nat} (h : k < vs.length) : vs[k]? = some (vs.getD k undef) := by
  rw [List.getD_eq_getElem?_getD, List.getElem?_eq_getElem h]; rfl
theorem catE_succ (ls : List (List Ent)) (k : Nat) (h : k < ls.length) : (ls.take (k + 1)).flatten = (ls.take k).flatten ++ ls.getD k [] := by
  rw [List.take_succ_eq_append_getElem h, List.flatten_append, List.getD_eq_getElem?_getD, List.getElem?_eq_getElem h]; simp
theorem catE_len (ls : List (List Ent)) (k : Nat) (h : k < ls.length) : (ls.take k).flatten.length + (ls.getD k []).length = (ls.take (k + 1)).flatten.length := by
  rw [catE_succ ls k h, List.length_append]
theorem catE_cells (ls : List (List Ent)) (k : Nat) (h : k < ls.length) : eCells (ls.take k).flatten ++ eCells (ls.getD k []) = eCells (ls.take (k + 1)).flatten := by
  rw [catE_succ ls k h, eCells_app]
theorem catE_le (ls : List (List Ent)) (k : Nat) : (ls.take k).flatten.length ≤ ls.flatten.length := by
  have h := congrArg (fun l => (List.flatten l).length) (List.take_append_drop k ls)
  simp only [List.flatten_append, List.length_append] at h
  omega
theorem rz_cells {w : World} {v : Value} {sz n : Nat} {xs : List Value} (h : RdZ w v sz n xs) : v.cells = #[v] := by
  obtain ⟨a, c, rfl⟩ := h.len; rfl
theorem flat_two {v u : Value} (hv : v.cells = #[v]) (hu : u.cells = #[u]) : [v, u].flatMap (fun x => x.cells.toList) = [v, u] := by simp [hv, hu]
theorem two_rd {w : World} {v u : Value} {l m : List Ent} (hv : RdZ w v 34 l.length (eCells l)) (hu : RdZ w u 34 m.length (eCells m)) : ∀ k, k < [v, u].length → RdZ w ([v, u].getD k undef) 34 (([l, m] : List (List Ent)).getD k []).length (eCells (([l, m] : List (List Ent)).getD k []))
  | 0, _ => hv
  | 1, _ => hu
  | k + 2, h => absurd h (by simp only [List.length_cons, List.length_nil]; omega)
theorem pushE_f {l f : List Ent} (h : f.all isE = false) : pushE l f = 1 := by unfold pushE; rw [h]; rfl
theorem pushE_l {l f : List Ent} (h : l.all isE = false) : pushE l f = 1 := by unfold pushE; rw [h, Bool.and_false]; rfl
theorem pushE_12 {l f : List Ent} (hf : f.all isE = true) (hl : l.all isE = true) (h : (4 : Int) < ((f.length : Nat) : Int) + ((l.length : Nat) : Int)) : pushE l f = 12 := by
  unfold pushE; rw [hf, hl, if_pos (show (true && true) = true from rfl), if_pos (by omega)]
theorem pushE_0 {l f : List Ent} (hf : f.all isE = true) (hl : l.all isE = true) (h : ¬ (4 : Int) < ((f.length : Nat) : Int) + ((l.length : Nat) : Int)) : pushE l f = 0 := by
  unfold pushE; rw [hf, hl, if_pos (show (true && true) = true from rfl), if_neg (by omega)]
theorem pushM_0 {l f : List Ent} (h : pushE l f = 0) : pushM l f = f ++ l := by unfold pushM; rw [if_pos h]
theorem pushM_n {l f : List Ent} {e : Int} (h : pushE l f = e) (he : e ≠ 0) : pushM l f = [] := by unfold pushM; rw [if_neg (by rw [h]; exact he)]
theorem push_out {w : World} {base : Nat} {e : TypeId} {l f : List Ent} {err : Int} {vs : Value} (h : pushE l f = err) (hO : Owns w base e 34 vs (pushM l f).length (eCells (pushM l f))) :
    ∃ v', Value.tuple #[vs, .int .i64 err] = .tuple #[v', .int .i64 (pushE l f)] ∧ Owns w base e 34 v' (pushM l f).length (eCells (pushM l f)) := by
  rw [h]; exact ⟨vs, rfl, hO⟩
theorem push_nil {w : World} {base : Nat} {e : TypeId} {l f : List Ent} {err : Int} (h : pushE l f = err) (he : err ≠ 0) :
    ∃ v', Value.tuple #[.slice none 0 0, .int .i64 err] = .tuple #[v', .int .i64 (pushE l f)] ∧ Owns w base e 34 v' (pushM l f).length (eCells (pushM l f)) :=
  push_out h (by rw [pushM_n h he]; exact owns_nil _ _ _ _)
/-! ### what the laws want -/
theorem concat_fin {w : World} {base : Nat} {e : TypeId} {v : Value} {ls : List (List Ent)} {i : Nat} (hi : ls.length ≤ i) (h : Owns w base e 34 v (ls.take i).flatten.length (eCells (ls.take i).flatten)) : Owns w base e 34 v ls.flatten.length (eCells ls.flatten) := by
  rwa [List.take_of_length_le hi] at h
end Go.Proofs.YtobfeflheaobiaaDoor
