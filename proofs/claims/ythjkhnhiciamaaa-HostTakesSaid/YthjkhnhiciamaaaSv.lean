/- Servers: their triggers, what they send, what they take; servers that come in; no Go in it. -/
import Derived.Test.YthjkhnhiciamaaaGd
set_option linter.unusedVariables false
set_option linter.unusedSimpArgs false
set_option linter.unusedSectionVars false
namespace Go.Proofs.Ythjkhnhiciamaaa
open Go.RowKit
/-! ### servers: their number, secret, triggers; what they send; what they take -/
instance : DecidableEq Mg := fun a b => decidable_of_iff (mEqB a b = true) (mEqB_iff a b)
structure Sv where
  no : Int
  sec : ByteArray
  tb : List Tg
deriving DecidableEq
def svL (n : Int) (s : ByteArray) (v : Value) : List Value := [.int .i64 n, .string s, v]
def svArr (n : Int) (s : ByteArray) (v : Value) : Array Value := (svL n s v).toArray
/-! what is sent -/
abbrev Se := Int × Mg × Tg
abbrev S2 := Se × Value
instance : DecidableEq Se := fun a b => inferInstanceAs (Decidable (a = b))
instance (a b : List Se) : Decidable (a = b) := @instDecidableEqList Se _ a b
def zSe : Se := (0, mZ, zTg)
def zS2 : S2 := (zSe, nilV)
def seL (n : Int) (m : Mg) (v : Value) (t : Tg) : List Value := .int .i64 n :: ((mArr m v).toList ++ tgL t)
def seArr (n : Int) (m : Mg) (v : Value) (t : Tg) : Array Value := (seL n m v t).toArray
theorem mArr_len (m : Mg) (v : Value) : (mArr m v).toList.length = 71 := by rw [Array.length_toList, mArr_size]
theorem seL_len (n : Int) (m : Mg) (v : Value) (t : Tg) : (seL n m v t).length = 139 := by simp [seL, tgL_len]
theorem seArr_size (n : Int) (m : Mg) (v : Value) (t : Tg) : (seArr n m v t).size = 139 := by simp [seArr, seL_len]
theorem seArr_ones {v : Value} (n : Int) (m : Mg) (t : Tg) (hv : v.oneCell' = true) : ∀ u ∈ (seArr n m v t).toList, u.oneCell' = true := fun u hu => by
  have hu : u ∈ seL n m v t := hu
  unfold seL at hu
  rcases List.mem_cons.1 hu with rfl | hu
  · rfl
  · rcases List.mem_append.1 hu with hu | hu
    · exact mArr_ones m v hv u hu
    · exact tgL_ones t u hu
section
variable (n : Int) (m : Mg) (v : Value) (t : Tg)
theorem se_n : (seArr n m v t)[0]? = some (.int .i64 n) := rfl
theorem se_m : (seArr n m v t).extract 1 (1 + 71) = mArr m v := ext_lt9 _ _ _ _ (by
  show ((mArr m v).toList ++ tgL t).take 71 = _
  rw [List.take_left' (mArr_len m v)])
theorem se_t : (seArr n m v t).extract 72 (72 + 67) = tgArr t := ext_lt9 _ _ _ _ (by
  show (((mArr m v).toList ++ tgL t).drop 71).take 67 = tgL t
  rw [List.drop_left' (mArr_len m v), ← tgL_len t, List.take_length])
theorem se_in (j : Nat) (hj : j < 71) : (seArr n m v t)[1 + j]? = (mArr m v)[j]? := by
  unfold seArr seL
  rw [List.getElem?_toArray, Nat.add_comm 1 j, List.getElem?_cons_succ, List.getElem?_append_left (by rw [mArr_len]; exact hj), Array.getElem?_toList]
theorem se_k : (seArr n m v t)[1]? = some (.int .i64 m.k) := (se_in n m v t 0 (by decide)).trans (mArr_k m v)
end
def s2L (x : S2) : List Value := seL x.1.1 x.1.2.1 x.2 x.1.2.2
theorem s2L_len (x : S2) : (s2L x).length = 139 := seL_len ..
def seCells (l : List S2) : List Value := l.flatMap s2L
theorem seCells_app (l r : List S2) : seCells (l ++ r) = seCells l ++ seCells r := List.flatMap_append
theorem s2D {l : List S2} {j : Nat} (hj : j < l.length) : l[j] = l.getD j zS2 := by rw [List.getD_eq_getElem?_getD, List.getElem?_eq_getElem hj]; rfl
theorem s2_el (l : List S2) (j : Nat) (hj : j < l.length) : (((seCells l).drop (j * 139)).take 139).toArray = seArr (l.getD j zS2).1.1 (l.getD j zS2).1.2.1 (l.getD j zS2).2 (l.getD j zS2).1.2.2 := by
  unfold seCells
  rw [cells_el _ 139 s2L_len l j hj, s2D hj]; rfl
theorem s2_mem {l : List S2} {j : Nat} (hj : j < l.length) : l.getD j zS2 ∈ l := by rw [← s2D hj]; exact List.getElem_mem hj
theorem one_s2 (x : S2) : ([Value.agg (seArr x.1.1 x.1.2.1 x.2 x.1.2.2)].flatMap fun v => v.cells.toList) = s2L x := by simp [Value.cells, seArr, s2L]
theorem s2_put (K : List S2) (x : S2) : seCells K ++ ([Value.agg (seArr x.1.1 x.1.2.1 x.2 x.1.2.2)].flatMap fun v => v.cells.toList) = seCells (K ++ [x]) := by rw [one_s2, seCells_app]; simp [seCells]
theorem s2_sz (x : S2) : ∀ v ∈ ([.agg (seArr x.1.1 x.1.2.1 x.2 x.1.2.2)] : List Value), v.cells.size = 139 := fun v hv => by
  rw [List.mem_singleton] at hv; subst hv; exact seArr_size ..
def RwS (K : List S2) (w : World) : Prop := ∀ x ∈ K, RdE w x.2 x.1.2.1.l
def sends (K : List S2) : List Se := K.map (·.1)
theorem sends_len (K : List S2) : (sends K).length = K.length := List.length_map ..
theorem rwS_nil (w : World) : RwS [] w := fun _ h => by cases h
theorem rwS_snoc {w : World} {K : List S2} {x : Se} {u : Value} (h : RwS K w) (hu : RdE w u x.2.1.l) : RwS (K ++ [(x, u)]) w := fun y hy => by
  rcases List.mem_append.1 hy with hy | hy
  · exact h y hy
  · rw [List.mem_singleton.1 hy]; exact hu
theorem s2_ones {K : List S2} {w : World} (h : RwS K w) : ∀ u ∈ seCells K, u.oneCell' = true := fun u hu => by
  obtain ⟨x, hx, hu⟩ := List.mem_flatMap.1 hu
  exact seArr_ones _ _ _ (rd_one (h x hx)) u hu
/-! ### the model -/
structure Hr where
  s : Sv
  l : List Se
  e : Int
def pkOf (m : Mg) : Pk := (m.l, min m.n 64, m.d)
/-- triggers handed over -/
def hanS : List Tg → List Tg × Nat → List Tg × Nat
  | [], a => a
  | x :: l, a => hanS l (bif decide ((putT a.1 x).length ≤ 32) then (putT a.1 x, a.2) else (a.1, a.2 + 1))
end Go.Proofs.Ythjkhnhiciamaaa

namespace Go.Proofs.Ythjkhnhiciamaaa
open Go.RowKit
/-! ### what a server comes to: facts -/
theorem pk_right {m : Mg} (h : rightM m = true) (hk : m.k = 1) : rightP (pkOf m) = true := by
  obtain ⟨_, _, _, h3, h4, _, h6⟩ := right_parts h
  unfold c3 at h3; unfold c4 at h4; unfold c6 at h6
  rw [hk] at h3 h4 h6
  simp [hasS, hasN, hasD] at h3 h4 h6
  refine rightP_iff.2 ⟨rightE_iff _ |>.1 h3, ?_, ?_, h6⟩
  · show 0 ≤ min m.n 64; omega
  · show min m.n 64 ≤ 64; omega
/-! a message about a trigger -/
end Go.Proofs.Ythjkhnhiciamaaa

namespace Go.Proofs.Ythjkhnhiciamaaa
open Go.RowKit
/-! ### what the walks want of servers -/
def seZ : List (List Value) := [[.int .i64 0], mZs.flatten, tgZ.flatten]
theorem se_zero : seArr 0 mZ nilV zTg = seZ.flatten.toArray := by
  unfold seArr seL
  rw [mZ_flat, tgL_zero]; rfl
section
variable {P : Program} {ρ : Operand → Value} {d : Option Tmp} {ty : TypeId} {pos : String} {af : Array Edge} {g : Option (Nat × Bool)} {x y z : Operand} {t : TypeId}
end
/-! a server, what it sends, the error, as one -/
section
variable (n : Int) (s : ByteArray) (v u : Value) (e : Int)
end
section
variable {P : Program} {ρ : Operand → Value} {d : Option Tmp} {ty : TypeId} {pos : String} {af : Array Edge} {g : Option (Nat × Bool)} {x y z : Operand} {t : TypeId}
end
/-! one field set -/
theorem rwS_keep {w w' : World} {K : List S2} (h : RwS K w) (e : Ext w w') : RwS K w' := fun x hx => (h x hx).keep e
/-! two rows of what is sent -/
theorem sends_at {K : List S2} {j : Nat} (hj : j < K.length) : (sends K)[j]? = some (K.getD j zS2).1 := by
  unfold sends
  rw [List.getElem?_map, List.getElem?_eq_getElem hj, s2D hj]; rfl
theorem sd_ne {K M : List S2} {k : Nat} (h1 : k < K.length) (h2 : k < M.length) (h : (K.getD k zS2).1 ≠ (M.getD k zS2).1) : decide (sends K = sends M) = false := decide_eq_false fun e => h (by
  have := sends_at h1
  rw [e, sends_at h2] at this
  exact (Option.some.inj this).symm)
theorem sd_nl {K M : List S2} (h : ¬ K.length = M.length) : decide (sends K = sends M) = false := decide_eq_false fun e => h (by rw [← sends_len K, ← sends_len M, e])
theorem sd_all {K M : List S2} (hl : K.length = M.length) (h : ∀ j, j < K.length → (K.getD j zS2).1 = (M.getD j zS2).1) : decide (sends K = sends M) = true := decide_eq_true (by
  refine List.ext_getElem? fun j => ?_
  rcases Nat.lt_or_ge j K.length with g | g
  · rw [sends_at g, sends_at (hl ▸ g), h j g]
  · rw [List.getElem?_eq_none (by rw [sends_len]; exact g), List.getElem?_eq_none (by rw [sends_len, ← hl]; exact g)])
theorem sd_next {K M : List S2} {k : Nat} (h : ∀ j, j < k → (K.getD j zS2).1 = (M.getD j zS2).1) (he : (K.getD k zS2).1 = (M.getD k zS2).1) : ∀ j, j < k + 1 → (K.getD j zS2).1 = (M.getD j zS2).1 := fun j hj => by
  rcases Nat.lt_or_ge j k with g | g
  · exact h j g
  · obtain rfl : j = k := by omega
    exact he
theorem se_eq {x y : Se} (h0 : decide (x.1 = y.1) = true) (h1 : decide (x.2.2 = y.2.2) = true) (h2 : mEqB x.2.1 y.2.1 = true) : x = y := Prod.ext (of_decide_eq_true h0) (Prod.ext ((mEqB_iff _ _).1 h2) (of_decide_eq_true h1))
/-! what is handed out: a server, what it sends, an error -/
section
variable {w w' : World} {vt vw vs : Value} {tb tb0 : List Tg} {l : List Ent} {H : Hr} {N M : TypeId} {s' : Sv} {L : List Se} {e : Int}
end
end Go.Proofs.Ythjkhnhiciamaaa

namespace Go.Proofs.Ythjkhnhiciamaaa
open Go.RowKit
/-! ### rows of what is sent, read; triggers handed over -/
def RdS (w : World) (v : Value) (K : List S2) : Prop := RdZ w v 139 K.length (seCells K) ∧ RwS K w
theorem RdS.keep {w w' : World} {v : Value} {K : List S2} (h : RdS w v K) (e : Ext w w') : RdS w' v K := ⟨h.1.keep e, rwS_keep h.2 e⟩
theorem se_c0 (K : List S2) (j : Nat) (hj : j < K.length) : (seCells K)[j * 139 + 0]? = some (.int .i64 (K.getD j zS2).1.1) := by
  have h := congrArg (fun a : Array Value => a[0]?) (s2_el K j hj)
  simp only [se_n, List.getElem?_toArray] at h
  rw [← h, List.getElem?_take_of_lt (by decide), List.getElem?_drop]
theorem se_ne {α : Type} [DecidableEq α] {x y : Se} (f : Se → α) (h : decide (f x = f y) = false) : x ≠ y := fun e => of_decide_eq_false h (by rw [e])
theorem se_neM {x y : Se} (h : mEqB x.2.1 y.2.1 = false) : x ≠ y := fun e => by rw [e, mEqB_refl] at h; cases h
def hk9 (l tb : List Tg) (k : Nat) : List Tg × Nat := hanS (l.take k) (tb, 0)
end Go.Proofs.Ythjkhnhiciamaaa

namespace Go.Proofs.Ythjkhnhiciamaaa
open Go.RowKit
/-! ### package server's answers (contracts); what the laws take -/
theorem sends_one {K : List S2} {x : Se} (h : sends K = [x]) : K.length = 1 ∧ (K.getD 0 zS2).1 = x := by
  match K, h with
  | [y], h => exact ⟨rfl, (List.cons.inj h).1⟩
  | [], h => cases h
  | _ :: _ :: _, h => cases (List.cons.inj h).2
theorem se_c1 (K : List S2) (j : Nat) (hj : j < K.length) : (seCells K)[j * 139 + 1]? = some (.int .i64 (K.getD j zS2).1.2.1.k) := by
  have h := congrArg (fun a : Array Value => a[1]?) (s2_el K j hj)
  simp only [se_k, List.getElem?_toArray] at h
  rw [← h, List.getElem?_take_of_lt (by decide), List.getElem?_drop]
end Go.Proofs.Ythjkhnhiciamaaa
namespace Go.Proofs.Ythjkhnhiciamaaa
open Go.RowKit
section
variable {m : Mg}
end
end Go.Proofs.Ythjkhnhiciamaaa

namespace Go.Proofs.Ythjkhnhiciamaaa
open Go.RowKit Go.ChangeShapes Go.WideShapes Go.ChangeAt
/-! ### slices that come in -/
theorem open_slK {H α : Type} {enc : TypeId × Value → H} {P : Program} {W : World} {ts t : TypeId} {fuel : Nat} {cs : List Value} {x : DataW H × List MemPlace} (C : α → Array Value) (sz : Nat) (h0 : 0 < sz) (hC : ∀ a, (C a).size = sz) (z : α)
    (hts : P.underlying ts = some (.slice t)) (hct : P.cellsOf t = sz) (op : ∀ (fuel : Nat) (cs : List Value) (x : DataW H × List MemPlace), DataW.trod enc P W 0 (fun _ => true) true fuel t cs = some x → ∃ l : α, cs = (C l).toList)
    (hf : DataW.trod enc P W 0 (fun _ => true) true fuel ts cs = some x) : ∃ (v : Value) (ls : List α), cs = [v] ∧ RdZ W v sz ls.length (ls.flatMap fun a => (C a).toList) := by
  rcases Go.Deep.open_slice hts hf with ⟨hcs, _⟩ | ⟨a', len, cap, m, k, D, Pl, hcs, _, hl, _, hm, _, hel⟩
  · exact ⟨_, [], hcs, by simp, .inl ⟨rfl, rfl⟩⟩
  · have hml : len ≤ m := by rw [hm]; split <;> omega
    have each : ∀ i, ∃ l : α, i < len → Has W (a'.add (i * sz)) (C l) := fun i => by
      by_cases hi : i < len
      · obtain ⟨cs', hc1, hc2⟩ := hel i (by omega)
        obtain ⟨l, rfl⟩ := op _ _ _ hc2
        refine ⟨l, fun _ j u hj => ?_⟩
        rw [hct] at hc1
        obtain ⟨_, hlen, hall⟩ := World.cells?_some hc1
        have hj34 : j < sz := by have := (Array.getElem?_eq_some_iff.1 hj).1; rw [hC] at this; exact this
        have := hall j hj34
        rw [this, Array.getElem?_toList]; exact hj
      · exact ⟨z, fun h9 => absurd h9 hi⟩
    obtain ⟨L, hL⟩ := Classical.axiomOfChoice each
    refine ⟨_, (List.range len).map L, hcs, ?_, .inr ⟨a', cap, by simp, by simpa using hl, ?_⟩⟩
    · exact cells_len _ sz (fun a => by rw [Array.length_toList, hC]) _
    · refine has_flat _ sz h0 (fun x => by rw [Array.length_toList, hC]) _ fun i hi => ?_
      have hi' : i < len := by simpa using hi
      have := hL i hi'
      simpa using this
end Go.Proofs.Ythjkhnhiciamaaa

namespace Go.Proofs.Ythjkhnhiciamaaa
open Go.RowKit Go.ChangeShapes Go.WideShapes Go.ChangeAt
/-! ### servers that come in -/
theorem open_sv {H : Type} {enc : TypeId × Value → H} {P : Program} {W : World} {r : Reach} {b0 : Nat} {tm tz ts tg te tn ti e : TypeId} {g0 g1 g2 f0 f1 f2 k0 k1 k2 : Field} {v : Value} {d : DataW H} {ps : List MemPlace} (T : IdTy P ti e) (hc : P.cellsOf ti = 32) (hce : P.cellsOf e = 1) (hn : P.underlying tn = some (.int .i64)) (hcn : P.cellsOf tn = 1)
    (hz : P.underlying tz = some .string) (hcz : P.cellsOf tz = 1) (hcs : P.cellsOf ts = 1)
    (hte : P.underlying te = some (.struct #[f0, f1, f2])) (h0 : f0.type = tn) (h1 : f1.type = ti) (h2 : f2.type = tn) (o0 : f0.offset = 0) (o1 : f1.offset = 1) (o2 : f2.offset = 33) (hcte : P.cellsOf te = 34)
    (hts : P.underlying ts = some (.slice tg)) (htg : P.underlying tg = some (.struct #[k0, k1, k2])) (j0 : k0.type = ti) (j1 : k1.type = te) (j2 : k2.type = tn) (p0 : k0.offset = 0) (p1 : k1.offset = 32) (p2 : k2.offset = 66) (hctg : P.cellsOf tg = 67)
    (htm : P.underlying tm = some (.struct #[g0, g1, g2])) (ht0 : g0.type = tn) (ht1 : g1.type = tz) (ht2 : g2.type = ts) (ho0 : g0.offset = 0) (ho1 : g1.offset = 1) (ho2 : g2.offset = 2) (hctm : P.cellsOf tm = 3)
    (hval : Value.okWide P W r b0 tm v) (h : DataW.Trod enc P W 0 (fun _ => true) true tm v d ps) : ∃ (p : Sv) (u : Value), v = .agg (svArr p.no p.sec u) ∧ RdT W u p.tb := by
  have hv : ∃ cs, v = .agg cs := by
    unfold Value.okWide at hval
    simp only [htm] at hval
    obtain ⟨cs, h9, _⟩ := hval
    exact ⟨cs, h9⟩
  obtain ⟨cs, rfl⟩ := hv
  obtain ⟨fuel, hf⟩ := h
  obtain ⟨xs, n, hcells, _, hl, hxl, hel⟩ := DataW.trod_struct htm hf
  have hcl : cs.toList.length = 3 := by rw [← hctm]; simpa [Value.cells] using hl
  have hx3 : xs.length = 3 := by simpa using hxl
  have e0 := hel 0 g0 rfl
  have e1 := hel 1 g1 rfl
  have e2 := hel 2 g2 rfl
  rw [ht0, ho0, hcn, List.getElem?_eq_getElem (by omega)] at e0
  rw [ht1, ho1, hcz, List.getElem?_eq_getElem (by omega)] at e1
  rw [ht2, ho2, hcs, List.getElem?_eq_getElem (by omega)] at e2
  obtain ⟨k, hk9, _⟩ := DataW.trod_int hn e0
  obtain ⟨d9, hd9, _⟩ := DataW.trod_string hz e1
  obtain ⟨u, ls, hu, hls⟩ := open_slK tgArr 67 (by decide) tgArr_size zTg hts hctg (fun _ _ _ h => open_tgL T hc hce hn hcn hte h0 h1 h2 o0 o1 o2 hcte htg j0 j1 j2 p0 p1 p2 hctg h) e2
  refine ⟨⟨k, d9, ls⟩, u, ?_, hls⟩
  have key : cs.toList = (svArr k d9 u).toList := by
    show cs.toList = [.int .i64 k] ++ ([.string d9] ++ [u])
    simp only [Value.cells] at hk9 hd9 hu ⊢
    have hd2 : cs.toList.drop 2 = [u] := by
      rw [List.take_of_length_le (by rw [List.length_drop, hcl]; omega)] at hu; exact hu
    have hsplit : cs.toList = cs.toList.take 1 ++ ((cs.toList.drop 1).take 1 ++ cs.toList.drop 2) := by
      rw [show cs.toList.drop 2 = (cs.toList.drop 1).drop 1 from by rw [List.drop_drop], List.take_append_drop, List.take_append_drop]
    rw [hd2, hd9, show cs.toList.take 1 = [.int .i64 k] from hk9] at hsplit
    exact hsplit
  rw [Array.toList_inj.1 key]
end Go.Proofs.Ythjkhnhiciamaaa

namespace Go.Proofs.Ythjkhnhiciamaaa
open Go.RowKit
theorem Has.of_mem {w0 w : World} {B : List Own} (s : St w0 B w) {b : Nat} {C : Array Value} {u : TypeId} (h : Own.blk b (.cells C u) ∈ B) : Has w ⟨b, 0, none⟩ C := by
  obtain ⟨i, hi⟩ := List.mem_iff_getElem?.1 h
  exact Has.of_own s i hi
theorem RdZ.of_mem {w0 w : World} {B : List Own} (s : St w0 B w) {v : Value} {e : TypeId} {sz n : Nat} {L : List Value} (h : Own.sl v e sz n L ∈ B) : RdZ w v sz n L := by
  obtain ⟨i, hi⟩ := List.mem_iff_getElem?.1 h
  exact RdZ.of_own (s.getSl i hi)
/-! ### interfaces: a value put behind one, asked for its type, a method called through it -/
section
variable {P : Program} {ρ : Operand → Value} {d : Option Tmp} {ty t t' : TypeId} {pos : String} {af : Array Edge} {g : Option (Nat × Bool)} {x : Operand}
end
/-- how a method of what stands behind an interface is found -/
def Met (P : Program) (T : TypeId) (rv : Value) (nm : String) (f : FuncId) : Prop := ∀ w, (method (P.types.size + Made.depth) T rv nm).run P w = .ok (f, rv) w
theorem does_callI {P : Program} {ρ : Operand → Value} {dst : Option Tmp} {g : Option (Nat × Bool)} {ty : TypeId} {pos : String} {af : Array Edge} {f : FuncId} {T : TypeId} {rv : Value} {nm : String} {cal : Operand} {tys : Array TypeId} {w : World} (hf : Fnc P f)
    (hm : Met P T rv nm f) (hc : ρ cal = .iface T rv) {R : Value → World → Prop} (hC : Calls P f #[rv] w fun e w' => ∃ v, e = .returned v ∧ R v w') : Does P ⟨dst, .call { callee := .invoke cal nm, args := #[], argTypes := tys }, ty, pos, af, g⟩ ρ w R := by
  obtain ⟨fn, h1, h2, h3⟩ := hf.has
  unfold Does
  have hm' := hm w
  simp only [execOp, resolve, hc, Sem.run_bind, Sem.run_pure, Result.andThen_ok, invoke, callMethod]
  have e0 : (#[Value.iface T rv] ++ Array.map ρ #[])[0]? = some (Value.iface T rv) := by simp
  rw [e0]
  simp only [callMethod, Sem.run_bind, show ∀ w, Sem.run P program w = .ok P w from fun _ => rfl, Result.andThen_ok, hm']
  have e1 : #[rv] ++ (#[Value.iface T rv] ++ Array.map ρ #[]).extract 1 = #[rv] := by simp
  rw [e1]
  rw [run_callFunc h1 h2 h3]
  exact hC
section
variable {P : Program} {ops : Array Oper} {Q : Act → World → Prop} {l : List Oper} {a : Act} {w w0 : World} {N : Nat} {L : List (Nat × Value)} {Df : List Deferred} {B : List Own} {d : Tmp} {ty : TypeId} {pos : String} {af : Array Edge}
end
section
variable {P : Program} {ops : List Oper} {K : Act → World → Prop} {l : List Oper} {a : Act} {w : World} {N : Nat} {L : List (Nat × Value)} {Df : List Deferred} {d : Tmp} {ty : TypeId} {pos : String} {af : Array Edge}
/-- .. and in a region that is walked by values -/
theorem w_callI {f : FuncId} {T9 : TypeId} {rv X : Value} {nm : String} {cal : Operand} {tys : Array TypeId} (h : Sl N a L Df) (hf : Fnc P f) (hm : Met P T9 rv nm f) (hc : evo L cal = some (.iface T9 rv))
    (hC : ∀ w', Ext w w' → Calls P f #[rv] w' (Ret w' (is X))) (hd : Nat.blt d N = true) (k : ∀ a', Sl N a' ((d, X) :: L) Df → Wlk P ops.toArray K w l a') :
    Wlk P ops.toArray K w (⟨some d, .call { callee := .invoke cal nm, args := #[], argTypes := tys }, ty, pos, af, none⟩ :: l) a :=
  w_does X h (fun w' hE => does_callI hf hm (h.ev hc) (hC w' hE)) hd k
end
end Go.Proofs.Ythjkhnhiciamaaa
