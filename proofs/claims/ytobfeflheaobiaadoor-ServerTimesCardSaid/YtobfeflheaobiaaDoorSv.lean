/- Servers: their triggers, what they send, what they take; servers that come in; no Go in it. -/
import Derived.Test.YtobfeflheaobiaaDoorGd
set_option linter.unusedVariables false
set_option linter.unusedSimpArgs false
set_option linter.unusedSectionVars false
namespace Go.Proofs.YtobfeflheaobiaaDoor
open Go.RowKit
/-! ### servers: their number, secret, triggers; what they send; what they take -/
instance : DecidableEq Mg := fun a b => decidable_of_iff (mEqB a b = true) (mEqB_iff a b)
structure Sv where
  no : Int
  sec : ByteArray
  tb : List Tg
deriving DecidableEq
def zSv : Sv := ⟨0, ByteArray.empty, []⟩
def svL (n : Int) (s : ByteArray) (v : Value) : List Value := [.int .i64 n, .string s, v]
def svArr (n : Int) (s : ByteArray) (v : Value) : Array Value := (svL n s v).toArray
theorem svArr_size (n : Int) (s : ByteArray) (v : Value) : (svArr n s v).size = 3 := rfl
theorem svArr_ones {v : Value} (n : Int) (s : ByteArray) (hv : v.oneCell' = true) : ∀ u ∈ (svArr n s v).toList, u.oneCell' = true := fun u hu => by
  have hu : u ∈ svL n s v := hu
  unfold svL at hu
  simp only [List.mem_cons, List.not_mem_nil, or_false] at hu
  rcases hu with rfl | rfl | rfl
  · rfl
  · rfl
  · exact hv
theorem sv_n (n : Int) (s : ByteArray) (v : Value) : (svArr n s v)[0]? = some (.int .i64 n) := rfl
theorem sv_s (n : Int) (s : ByteArray) (v : Value) : (svArr n s v)[1]? = some (.string s) := rfl
theorem sv_v (n : Int) (s : ByteArray) (v : Value) : (svArr n s v)[2]? = some v := rfl
def svZ : List (List Value) := [[.int .i64 0], [.string ByteArray.empty], [.slice none 0 0]]
/-! what is sent -/
abbrev Se := Int × Mg × Tg
abbrev S2 := Se × Value
instance : DecidableEq Se := fun a b => inferInstanceAs (Decidable (a = b))
instance (a b : List Se) : Decidable (a = b) := @instDecidableEqList Se _ a b
def zSe : Se := (0, mZ, zTg)
def zS2 : S2 := (zSe, nilV)
def seL (n : Int) (m : Mg) (v : Value) (t : Tg) : List Value := .int .i64 n :: ((mArr m v).toList ++ tgL t)
def seArr (n : Int) (m : Mg) (v : Value) (t : Tg) : Array Value := (seL n m v t).toArray
theorem mArr_len (m : Mg) (v : Value) : (mArr m v).toList.length = 71 := by rw [Array.length_toList, mArr_size]
theorem seL_len (n : Int) (m : Mg) (v : Value) (t : Tg) : (seL n m v t).length = 139 := by simp [seL, tgL_len]
theorem seArr_size (n : Int) (m : Mg) (v : Value) (t : Tg) : (seArr n m v t).size = 139 := by simp [seArr, seL_len]
theorem seArr_ones {v : Value} (n : Int) (m : Mg) (t : Tg) (hv : v.oneCell' = true) : ∀ u ∈ (seArr n m v t).toList, u.oneCell' = true := fun u hu => by
  have hu : u ∈ seL n m v t := hu
  unfold seL at hu
  rcases List.mem_cons.1 hu with rfl | hu
  · rfl
  · rcases List.mem_append.1 hu with hu | hu
    · exact mArr_ones m v hv u hu
    · exact tgL_ones t u hu
section
variable (n : Int) (m : Mg) (v : Value) (t : Tg)
theorem se_n : (seArr n m v t)[0]? = some (.int .i64 n) := rfl
theorem se_t : (seArr n m v t).extract 72 (72 + 67) = tgArr t := ext_lt9 _ _ _ _ (by
  show (((mArr m v).toList ++ tgL t).drop 71).take 67 = tgL t
  rw [List.drop_left' (mArr_len m v), ← tgL_len t, List.take_length])
theorem se_in (j : Nat) (hj : j < 71) : (seArr n m v t)[1 + j]? = (mArr m v)[j]? := by
  unfold seArr seL
  rw [List.getElem?_toArray, Nat.add_comm 1 j, List.getElem?_cons_succ, List.getElem?_append_left (by rw [mArr_len]; exact hj), Array.getElem?_toList]
theorem se_k : (seArr n m v t)[1]? = some (.int .i64 m.k) := (se_in n m v t 0 (by decide)).trans (mArr_k m v)
theorem se_d : (seArr n m v t)[71]? = some (.string m.d) := (se_in n m v t 70 (by decide)).trans (mArr_d m v)
end
def s2L (x : S2) : List Value := seL x.1.1 x.1.2.1 x.2 x.1.2.2
theorem s2L_len (x : S2) : (s2L x).length = 139 := seL_len ..
def seCells (l : List S2) : List Value := l.flatMap s2L
theorem seCells_app (l r : List S2) : seCells (l ++ r) = seCells l ++ seCells r := List.flatMap_append
theorem s2D {l : List S2} {j : Nat} (hj : j < l.length) : l[j] = l.getD j zS2 := by rw [List.getD_eq_getElem?_getD, List.getElem?_eq_getElem hj]; rfl
theorem s2_el (l : List S2) (j : Nat) (hj : j < l.length) : (((seCells l).drop (j * 139)).take 139).toArray = seArr (l.getD j zS2).1.1 (l.getD j zS2).1.2.1 (l.getD j zS2).2 (l.getD j zS2).1.2.2 := by
  unfold seCells
  rw [cells_el _ 139 s2L_len l j hj, s2D hj]; rfl
theorem s2_mem {l : List S2} {j : Nat} (hj : j < l.length) : l.getD j zS2 ∈ l := by rw [← s2D hj]; exact List.getElem_mem hj
theorem one_s2 (x : S2) : ([Value.agg (seArr x.1.1 x.1.2.1 x.2 x.1.2.2)].flatMap fun v => v.cells.toList) = s2L x := by simp [Value.cells, seArr, s2L]
theorem s2_put (K : List S2) (x : S2) : seCells K ++ ([Value.agg (seArr x.1.1 x.1.2.1 x.2 x.1.2.2)].flatMap fun v => v.cells.toList) = seCells (K ++ [x]) := by rw [one_s2, seCells_app]; simp [seCells]
theorem s2_sz (x : S2) : ∀ v ∈ ([.agg (seArr x.1.1 x.1.2.1 x.2 x.1.2.2)] : List Value), v.cells.size = 139 := fun v hv => by
  rw [List.mem_singleton] at hv; subst hv; exact seArr_size ..
def RwS (K : List S2) (w : World) : Prop := ∀ x ∈ K, RdE w x.2 x.1.2.1.l
def sends (K : List S2) : List Se := K.map (·.1)
theorem sends_len (K : List S2) : (sends K).length = K.length := List.length_map ..
theorem sends_app (K : List S2) (x : S2) : sends (K ++ [x]) = sends K ++ [x.1] := by unfold sends; rw [List.map_append]; rfl
theorem rwS_nil (w : World) : RwS [] w := fun _ h => by cases h
theorem rwS_snoc {w : World} {K : List S2} {x : Se} {u : Value} (h : RwS K w) (hu : RdE w u x.2.1.l) : RwS (K ++ [(x, u)]) w := fun y hy => by
  rcases List.mem_append.1 hy with hy | hy
  · exact h y hy
  · rw [List.mem_singleton.1 hy]; exact hu
theorem s2_ones {K : List S2} {w : World} (h : RwS K w) : ∀ u ∈ seCells K, u.oneCell' = true := fun u hu => by
  obtain ⟨x, hx, hu⟩ := List.mem_flatMap.1 hu
  exact seArr_ones _ _ _ (rd_one (h x hx)) u hu
/-! ### the model -/
def rightV (s : Sv) : Bool := decide (0 ≤ s.no) && (decide (s.no ≤ 15) && (decide (s.sec.size ≤ 64) && rightT s.tb))
def takenM (m : Mg) : Bool := decide (m.k = 1) || aboutM m
def dataM (p : Pk) : Mg := ⟨1, 0#256, (0, 0#256, 0), p.1, p.2.1, ⟨#[]⟩, p.2.2⟩
def ackM (m : Mg) : Mg := ⟨5, m.i, m.t, [], 0, ⟨#[]⟩, ⟨#[]⟩⟩
def pushG (i : Id) : Mg := ⟨7, i, (0, 0#256, 0), [], 0, ⟨#[]⟩, ⟨#[]⟩⟩
def cachG (i : Id) (n : Int) : Mg := ⟨8, i, (0, 0#256, 0), [], n, ⟨#[]⟩, ⟨#[]⟩⟩
structure Hr where
  s : Sv
  l : List Se
  e : Int
/-- a message about a trigger: s is the server without what is over, s0 as it was -/
def abtH (s s0 : Sv) (fr : Int) (m : Mg) (now : Int) : Hr :=
  bif decide (judK s.sec m = 1) then ⟨s, [(16 + m.t.2.2, judA s.sec m, zTg)], 0⟩ else
  bif decide (judK s.sec m = 2) then (bif decide ((putT s.tb (trgT m now)).length ≤ 32) then ⟨⟨s.no, s.sec, putT s.tb (trgT m now)⟩, [(fr, ackM m, zTg)], 0⟩ else ⟨s0, [], 8⟩) else
  bif decide (judK s.sec m = 3) then (bif decide ((findT s.tb m.i m.t).2.2 < 0) then ⟨s0, [], 6⟩ else ⟨⟨s.no, s.sec, wosT s.tb m.i m.t⟩, [], 0⟩) else ⟨s0, [], 11⟩
def fstI (p : Pk) : Id := (fstE p).2.1
/-- what is sent of one thing that becomes of a packet -/
def sndO (fr : Int) (p : Pk) (o : Ot) : List Se :=
  bif decide (o.k = 1) then [(16 + o.h, dataM o.p, zTg)] else
  bif decide (o.k = 2) then (bif decide ((fstE o.p).1 = 2) then [(16 + (fstE o.p).2.2, dataM o.p, o.t)] else [(-1, dataM o.p, o.t)]) else
  bif decide (o.y = 6) && decide (16 ≤ fr) then [(fr, pushG (fstI p), zTg)] else []
def sndK (fr : Int) (p : Pk) (R : List Ot) : List Se := R.flatMap (sndO fr p)
def pshO (fr : Int) (o : Ot) : Bool := decide (o.k = 3) && (decide (o.y = 6) && decide (16 ≤ fr))
def pkOf (m : Mg) : Pk := (m.l, min m.n 64, m.d)
noncomputable def pckL (s : Sv) (fr : Int) (m : Mg) : List Se :=
  sndK fr (pkOf m) (stepO s.tb (pkOf m)) ++ bif decide (16 ≤ fr) && (decide ((fstE (pkOf m)).1 = 1) && !(stepO s.tb (pkOf m)).any (pshO fr)) then [(fr, cachG (fstI (pkOf m)) s.no, zTg)] else []
def expV (s : Sv) (now : Int) : Sv := ⟨s.no, s.sec, expF s.tb now⟩
def hndB (s : Sv) (fr : Int) (m : Mg) (now : Int) : Bool := rightV s && (rightM m && (decide (0 ≤ fr) && (decide (fr ≤ 31) && (decide (0 ≤ now) && (decide (now ≤ 1099511627776) && takenM m)))))
noncomputable def hndH (s : Sv) (fr : Int) (m : Mg) (now : Int) : Hr :=
  bif hndB s fr m now then (bif decide (m.k = 1) then ⟨expV s now, pckL (expV s now) fr m, 0⟩ else abtH (expV s now) s fr m now) else ⟨zSv, [], 1⟩
/-- triggers handed over -/
def hanS : List Tg → List Tg × Nat → List Tg × Nat
  | [], a => a
  | x :: l, a => hanS l (bif decide ((putT a.1 x).length ≤ 32) then (putT a.1 x, a.2) else (a.1, a.2 + 1))
theorem rightV_iff {s : Sv} : rightV s = true ↔ 0 ≤ s.no ∧ s.no ≤ 15 ∧ s.sec.size ≤ 64 ∧ rightT s.tb = true := by
  unfold rightV
  rw [Bool.and_eq_true, Bool.and_eq_true, Bool.and_eq_true, decide_eq_true_eq, decide_eq_true_eq, decide_eq_true_eq]
theorem expV_right {s : Sv} (h : rightV s = true) (now : Int) : rightV (expV s now) = true := by
  obtain ⟨h1, h2, h3, h4⟩ := rightV_iff.1 h
  exact rightV_iff.2 ⟨h1, h2, h3, rt_iff.2 ((rt_iff.1 h4).filter _)⟩
end Go.Proofs.YtobfeflheaobiaaDoor

namespace Go.Proofs.YtobfeflheaobiaaDoor
open Go.RowKit
/-! ### what a server comes to: facts -/
theorem pk_right {m : Mg} (h : rightM m = true) (hk : m.k = 1) : rightP (pkOf m) = true := by
  obtain ⟨_, _, _, h3, h4, _, h6⟩ := right_parts h
  unfold c3 at h3; unfold c4 at h4; unfold c6 at h6
  rw [hk] at h3 h4 h6
  simp [hasS, hasN, hasD] at h3 h4 h6
  refine rightP_iff.2 ⟨rightE_iff _ |>.1 h3, ?_, ?_, h6⟩
  · show 0 ≤ min m.n 64; omega
  · show min m.n 64 ≤ 64; omega
/-! a message about a trigger -/
theorem hnd_bad {s : Sv} {fr : Int} {m : Mg} {now : Int} (h : hndB s fr m now = false) : hndH s fr m now = ⟨zSv, [], 1⟩ := by unfold hndH; rw [h]; rfl
theorem hndB_iff {s : Sv} {fr : Int} {m : Mg} {now : Int} : hndB s fr m now = true ↔ rightV s = true ∧ rightM m = true ∧ 0 ≤ fr ∧ fr ≤ 31 ∧ 0 ≤ now ∧ now ≤ 1099511627776 ∧ takenM m = true := by
  unfold hndB
  simp only [Bool.and_eq_true, decide_eq_true_eq]
theorem jud_cases (s : ByteArray) (m : Mg) : judK s m = 1 ∨ judK s m = 2 ∨ judK s m = 3 ∨ judK s m = 4 := by
  unfold judK
  cases decide (m.t.1 = 1)
  · cases decide (m.k = 2)
    · cases decide (m.o = ncG s m)
      · exact .inr (.inr (.inr rfl))
      · cases decide (m.k = 4)
        · exact .inr (.inr (.inl rfl))
        · exact .inr (.inl rfl)
    · exact .inl rfl
  · cases decide (m.k = 2) && linksM m.i m.t.2.1
    · exact .inr (.inr (.inr rfl))
    · exact .inr (.inl rfl)
theorem abt_cases (s s0 : Sv) (fr : Int) (m : Mg) (now : Int) :
    (judK s.sec m = 1 ∧ abtH s s0 fr m now = ⟨s, [(16 + m.t.2.2, judA s.sec m, zTg)], 0⟩) ∨
    (judK s.sec m = 2 ∧ (putT s.tb (trgT m now)).length ≤ 32 ∧ abtH s s0 fr m now = ⟨⟨s.no, s.sec, putT s.tb (trgT m now)⟩, [(fr, ackM m, zTg)], 0⟩) ∨
    (judK s.sec m = 2 ∧ ¬ (putT s.tb (trgT m now)).length ≤ 32 ∧ abtH s s0 fr m now = ⟨s0, [], 8⟩) ∨
    (judK s.sec m = 3 ∧ (findT s.tb m.i m.t).2.2 < 0 ∧ abtH s s0 fr m now = ⟨s0, [], 6⟩) ∨
    (judK s.sec m = 3 ∧ ¬ (findT s.tb m.i m.t).2.2 < 0 ∧ abtH s s0 fr m now = ⟨⟨s.no, s.sec, wosT s.tb m.i m.t⟩, [], 0⟩) ∨
    (judK s.sec m = 4 ∧ abtH s s0 fr m now = ⟨s0, [], 11⟩) := by
  rcases jud_cases s.sec m with e | e | e | e
  · refine .inl ⟨e, ?_⟩; unfold abtH; rw [e]; rfl
  · by_cases h : (putT s.tb (trgT m now)).length ≤ 32
    · refine .inr (.inl ⟨e, h, ?_⟩); unfold abtH; rw [e, decide_eq_true h]; rfl
    · refine .inr (.inr (.inl ⟨e, h, ?_⟩)); unfold abtH; rw [e, decide_eq_false h]; rfl
  · by_cases h : (findT s.tb m.i m.t).2.2 < 0
    · refine .inr (.inr (.inr (.inl ⟨e, h, ?_⟩))); unfold abtH; rw [e, decide_eq_true h]; rfl
    · refine .inr (.inr (.inr (.inr (.inl ⟨e, h, ?_⟩)))); unfold abtH; rw [e, decide_eq_false h]; rfl
  · refine .inr (.inr (.inr (.inr (.inr ⟨e, ?_⟩)))); unfold abtH; rw [e]; rfl
theorem hnd_data {s : Sv} {fr : Int} {m : Mg} {now : Int} (h : hndB s fr m now = true) (hk : m.k = 1) : hndH s fr m now = ⟨expV s now, pckL (expV s now) fr m, 0⟩ := by unfold hndH; rw [h, decide_eq_true hk]; rfl
theorem hnd_abt {s : Sv} {fr : Int} {m : Mg} {now : Int} (h : hndB s fr m now = true) (hk : ¬ m.k = 1) : hndH s fr m now = abtH (expV s now) s fr m now := by unfold hndH; rw [h, decide_eq_false hk]; rfl
/-- what may be stays such; what is sent may be -/
theorem trg_may {m : Mg} {now : Int} (h : aboutM m = true) (h0 : 0 ≤ now) : m.k ≠ 6 → mayT (trgT m now) = true := fun hk => by
  have hn := about_n h (decide_eq_false hk)
  refine may_iff'.2 ⟨(about_t h).1, ?_, ?_⟩
  · show 0 ≤ min (now + m.n) 1099511627776; omega
  · show min (now + m.n) 1099511627776 ≤ 1099511627776; omega
theorem jud_2 {s : ByteArray} {m : Mg} (h : judK s m = 2) : (m.t.1 = 1 ∧ m.k = 2 ∧ linksM m.i m.t.2.1 = true) ∨ (¬ m.t.1 = 1 ∧ m.k = 4 ∧ m.o = ncG s m) := by
  unfold judK at h
  by_cases c : m.t.1 = 1
  · rw [decide_eq_true c, cond_true] at h
    cases hb : decide (m.k = 2) && linksM m.i m.t.2.1 <;> rw [hb] at h
    · cases h
    · rw [Bool.and_eq_true] at hb
      exact .inl ⟨c, of_decide_eq_true hb.1, hb.2⟩
  · rw [decide_eq_false c, cond_false] at h
    cases h2 : decide (m.k = 2) <;> rw [h2] at h
    · rw [cond_false] at h
      cases ho : decide (m.o = ncG s m) <;> rw [ho] at h
      · cases h
      · cases h4 : decide (m.k = 4) <;> rw [h4] at h
        · cases h
        · exact .inr ⟨c, of_decide_eq_true h4, of_decide_eq_true ho⟩
    · cases h
end Go.Proofs.YtobfeflheaobiaaDoor

namespace Go.Proofs.YtobfeflheaobiaaDoor
open Go.RowKit
/-! ### a host that echoes what it is asked; packets at a time -/
theorem hnd_y {s : Sv} {fr : Int} {m : Mg} {now : Int} (hs : rightV s = true) (ha : aboutM m = true) (f0 : 0 ≤ fr) (f1 : fr ≤ 31) (t0 : 0 ≤ now) (t1 : now ≤ 1099511627776) : hndB s fr m now = true ∧ hndH s fr m now = abtH (expV s now) s fr m now := by
  have hk := about_iff.1 ha
  have hb : hndB s fr m now = true := hndB_iff.2 ⟨hs, hk.1, f0, f1, t0, t1, by unfold takenM; rw [ha, Bool.or_true]⟩
  exact ⟨hb, hnd_abt hb (by rcases hk.2 with e | e | e <;> omega)⟩
/-! a packet, at a time -/
def dxM (i : Id) : Mg := ⟨1, 0#256, (0, 0#256, 0), [(1, i, 0)], 64, ⟨#[]⟩, ⟨#[120]⟩⟩
theorem dx_right (i : Id) : rightM (dxM i) = true := by
  have h : rightE [(1, i, 0)] = true := (rightE_iff _).2 ⟨Nat.lt_succ_self 0, by show 1 ≤ 4; decide, fun e he => by rw [List.mem_singleton.1 he]; rfl⟩
  unfold rightM c1 c2 c3 c4 c5 c6 dxM
  simp [isK, hasI, hasT, hasS, hasN, hasO, hasD, h]
  decide
theorem tm_1 {s : Sv} {i : Id} {now : Int} (hs : rightV s = true) (t0 : 0 ≤ now) (t1 : now ≤ 1099511627776) : hndB s 0 (dxM i) now = true ∧ hndH s 0 (dxM i) now = ⟨expV s now, (mtF (expV s now).tb i).map fun x => (bif decide (x.2.1.1 = 2) then 16 + x.2.1.2.2 else -1, dataM (viaO (pkOf (dxM i)) x).p, x), 0⟩ := by
  have hb : hndB s 0 (dxM i) now = true := hndB_iff.2 ⟨hs, dx_right i, by decide, by decide, t0, t1, by unfold takenM; rfl⟩
  refine ⟨hb, ?_⟩
  rw [hnd_data hb rfl]
  have hst : stepO (expV s now).tb (pkOf (dxM i)) = bif decide ((mtF (expV s now).tb i).length = 0) then [deadO 6] else (mtF (expV s now).tb i).map (viaO (pkOf (dxM i))) := by
    unfold stepO
    show (bif decide ((1 : Int) = 2) then _ else bif decide ((64 : Int) = 0) then _ else bif decide ((mtF (expV s now).tb i).length = 0) then (bif decide (1 < 1) then _ else _) else _) = _
    rfl
  have hl : pckL (expV s now) 0 (dxM i) = (mtF (expV s now).tb i).map fun x => (bif decide (x.2.1.1 = 2) then 16 + x.2.1.2.2 else -1, dataM (viaO (pkOf (dxM i)) x).p, x) := by
    unfold pckL
    rw [hst]
    show sndK 0 _ _ ++ (bif decide ((16 : Int) ≤ 0) && _ then _ else []) = _
    rw [decide_eq_false (show ¬ (16 : Int) ≤ 0 by decide), Bool.false_and, cond_false, List.append_nil]
    by_cases h0 : (mtF (expV s now).tb i).length = 0
    · rw [decide_eq_true h0, cond_true, List.eq_nil_of_length_eq_zero h0]; rfl
    · rw [decide_eq_false h0, cond_false]
      unfold sndK
      rw [List.flatMap_map]
      have : ∀ l : List Tg, (l.flatMap fun x => sndO 0 (pkOf (dxM i)) (viaO (pkOf (dxM i)) x)) = l.map fun x => (bif decide (x.2.1.1 = 2) then 16 + x.2.1.2.2 else -1, dataM (viaO (pkOf (dxM i)) x).p, x) := fun l => by
        induction l with
        | nil => rfl
        | cons x l ih =>
          rw [List.flatMap_cons, ih, List.map_cons]
          have : sndO 0 (pkOf (dxM i)) (viaO (pkOf (dxM i)) x) = [(bif decide (x.2.1.1 = 2) then 16 + x.2.1.2.2 else -1, dataM (viaO (pkOf (dxM i)) x).p, x)] := by
            unfold sndO
            show (bif decide ((2 : Int) = 1) then _ else bif decide ((2 : Int) = 2) then (bif decide (x.2.1.1 = 2) then _ else _) else _) = _
            cases decide (x.2.1.1 = 2) <;> rfl
          rw [this]; rfl
      exact this _
  rw [hl]
theorem tmf_mem {t : List Tg} {i : Id} {x : Tg} (h : x ∈ mtF t i) : x ∈ t := by
  rcases mtf_at t i with ⟨e, _⟩ | ⟨n, _, _, e, _, _⟩
  · rw [e] at h; cases h
  · rw [e] at h; exact (mtk_mem h).1
theorem tm_2 {s : Sv} {i : Id} {now : Int} (hs : rightV s = true) {x : Tg} (h : x ∈ mtF (expV s now).tb i) : now < x.2.2 ∧ findT s.tb x.1 x.2.1 = x := by
  obtain ⟨h1, h2⟩ := List.mem_filter.1 (show x ∈ s.tb.filter _ from tmf_mem h)
  exact ⟨of_decide_eq_true h2, find_is' (rt_iff.1 (rightV_iff.1 hs).2.2.2).srt h1 (sm_refl x)⟩
theorem tm_3 {s : Sv} (i : Id) (hs : rightV s = true) : (expV s 1099511627776).tb = [] ∧ (mtF (expV s 1099511627776).tb i) = [] := by
  have e : (expV s 1099511627776).tb = [] := List.filter_eq_nil_iff.2 fun y hy h => by
    have := (may_iff'.1 ((rt_iff.1 (rightV_iff.1 hs).2.2.2).may y hy)).2.2
    have := of_decide_eq_true h
    omega
  refine ⟨e, ?_⟩
  rw [e]
  exact List.eq_nil_of_length_eq_zero (Nat.le_zero.1 (mtf_le [] i))
end Go.Proofs.YtobfeflheaobiaaDoor

namespace Go.Proofs.YtobfeflheaobiaaDoor
open Go.RowKit
/-! ### what the walks want of servers -/
def seZ : List (List Value) := [[.int .i64 0], mZs.flatten, tgZ.flatten]
theorem se_zero : seArr 0 mZ nilV zTg = seZ.flatten.toArray := by
  unfold seArr seL
  rw [mZ_flat, tgL_zero]; rfl
section
variable {P : Program} {ρ : Operand → Value} {d : Option Tmp} {ty : TypeId} {pos : String} {af : Array Edge} {g : Option (Nat × Bool)} {x y z : Operand} {t : TypeId}
theorem ru_build_sv0 (S : Stt P t svZ) : RunsTo P ⟨d, .build t #[], ty, pos, af, g⟩ ρ (.agg (svArr 0 ByteArray.empty nilV)) :=
  ru_build_st (P := P) (ρ := ρ) (d := d) (ty := ty) (pos := pos) (af := af) (g := g) (parts := #[]) S [] (by simp) (fun i v hm => by simp at hm) (D := svL 0 ByteArray.empty nilV) rfl
theorem ru_build_sv1 {n : Int} (S : Stt P t svZ) (hx : ρ x = .int .i64 n) : RunsTo P ⟨d, .build t #[(0, x)], ty, pos, af, g⟩ ρ (.agg (svArr n ByteArray.empty nilV)) := by
  have := ru_build_st (P := P) (ρ := ρ) (d := d) (ty := ty) (pos := pos) (af := af) (g := g) (parts := #[(0, x)]) S [(0, .int .i64 n)] (by simp [hx]) (fun j u hm => by
    simp only [List.mem_cons, Prod.mk.injEq, List.not_mem_nil, or_false] at hm
    obtain ⟨rfl, rfl⟩ := hm
    exact ⟨_, rfl, rfl⟩) (D := svL n ByteArray.empty nilV) rfl
  exact this
theorem ru_build_sv3 {n : Int} {s : ByteArray} {v : Value} (S : Stt P t svZ) (hv : v.cells.size = 1) (hc : v.cells.toList = [v]) (hx : ρ x = .int .i64 n) (hy : ρ y = .string s) (hz : ρ z = v) : RunsTo P ⟨d, .build t #[(0, x), (1, y), (2, z)], ty, pos, af, g⟩ ρ (.agg (svArr n s v)) := by
  have := ru_build_st (P := P) (ρ := ρ) (d := d) (ty := ty) (pos := pos) (af := af) (g := g) (parts := #[(0, x), (1, y), (2, z)]) S [(0, .int .i64 n), (1, .string s), (2, v)] (by simp [hx, hy, hz]) (fun j u hm => by
    simp only [List.mem_cons, Prod.mk.injEq, List.not_mem_nil, or_false] at hm
    rcases hm with ⟨rfl, rfl⟩ | ⟨rfl, rfl⟩ | ⟨rfl, rfl⟩
    · exact ⟨_, rfl, rfl⟩
    · exact ⟨_, rfl, rfl⟩
    · exact ⟨_, rfl, hv⟩) (D := svL n s v) (by
      show [Value.int .i64 n] ++ ([Value.string s] ++ (v.cells.toList ++ [])) = _
      rw [hc]; rfl)
  exact this
theorem ru_build_se {n : Int} {m : Mg} {v : Value} {b : Tg} (S : Stt P t seZ) (hx : ρ x = .int .i64 n) (hy : ρ y = .agg (mArr m v)) (hz : ρ z = .agg (tgArr b)) : RunsTo P ⟨d, .build t #[(0, x), (1, y), (2, z)], ty, pos, af, g⟩ ρ (.agg (seArr n m v b)) := by
  have := ru_build_st (P := P) (ρ := ρ) (d := d) (ty := ty) (pos := pos) (af := af) (g := g) (parts := #[(0, x), (1, y), (2, z)]) S [(0, .int .i64 n), (1, .agg (mArr m v)), (2, .agg (tgArr b))] (by simp [hx, hy, hz]) (fun j u hm => by
    simp only [List.mem_cons, Prod.mk.injEq, List.not_mem_nil, or_false] at hm
    rcases hm with ⟨rfl, rfl⟩ | ⟨rfl, rfl⟩ | ⟨rfl, rfl⟩
    · exact ⟨_, rfl, rfl⟩
    · exact ⟨_, rfl, by show (mArr m v).size = _; rw [mArr_size]; rfl⟩
    · exact ⟨_, rfl, by show (tgArr b).size = _; rw [tgArr_size]; rfl⟩) (D := seL n m v b) (by
      show [Value.int .i64 n] ++ ((mArr m v).toList ++ ((tgArr b).toList ++ [])) = _
      rw [List.append_nil]; rfl)
  exact this
end
/-! a server, what it sends, the error, as one -/
section
variable (n : Int) (s : ByteArray) (v u : Value) (e : Int)
end
section
variable {P : Program} {ρ : Operand → Value} {d : Option Tmp} {ty : TypeId} {pos : String} {af : Array Edge} {g : Option (Nat × Bool)} {x y z : Operand} {t : TypeId}
end
/-! one field set -/
theorem rwS_keep {w w' : World} {K : List S2} (h : RwS K w) (e : Ext w w') : RwS K w' := fun x hx => (h x hx).keep e
/-! two rows of what is sent -/
theorem sv_like0 {a b : Sv} (h : decide (a.no = b.no) = false) : decide (a = b) = false := decide_eq_false fun e => of_decide_eq_false h (by rw [e])
theorem sv_like1 {a b : Sv} (_h0 : decide (a.no = b.no) = true) (h : decide (a.sec = b.sec) = false) : decide (a = b) = false := decide_eq_false fun e => of_decide_eq_false h (by rw [e])
theorem sv_like2 {a b : Sv} (h0 : decide (a.no = b.no) = true) (h : decide (a.sec = b.sec) = true) : decide (a = b) = decide (a.tb = b.tb) := decide_eq_decide.2 ⟨fun e => by rw [e], fun e => by
  have g0 := of_decide_eq_true h0
  have g1 := of_decide_eq_true h
  clear h0 h
  cases a; cases b
  simp only at g0 g1 e
  subst g0; subst g1; subst e; rfl⟩
/-! what is handed out: a server, what it sends, an error -/
section
variable {w w' : World} {vt vw vs : Value} {tb tb0 : List Tg} {l : List Ent} {H : Hr} {N M : TypeId} {s' : Sv} {L : List Se} {e : Int}
end
theorem jd_k6 {s : ByteArray} {m : Mg} (h : decide (judK s m = 2) = true) : decide (m.k = 6) = false := decide_eq_false (by
  rcases jud_2 (of_decide_eq_true h) with ⟨_, e, _⟩ | ⟨_, e, _⟩ <;> omega)
theorem ab_1 {s s0 : Sv} {fr : Int} {m : Mg} {now : Int} (h : decide (judK s.sec m = 1) = true) : abtH s s0 fr m now = ⟨s, [(16 + m.t.2.2, judA s.sec m, zTg)], 0⟩ := by unfold abtH; rw [h]; rfl
theorem ab_2 {s s0 : Sv} {fr : Int} {m : Mg} {now : Int} (h1 : decide (judK s.sec m = 1) = false) (h : decide (judK s.sec m = 2) = true) (hf : decide ((putT s.tb (trgT m now)).length ≤ 32) = true) : abtH s s0 fr m now = ⟨⟨s.no, s.sec, putT s.tb (trgT m now)⟩, [(fr, ackM m, zTg)], 0⟩ := by unfold abtH; rw [h1, h, hf]; rfl
theorem ab_3 {s s0 : Sv} {fr : Int} {m : Mg} {now : Int} (h1 : decide (judK s.sec m = 1) = false) (h : decide (judK s.sec m = 2) = true) (hf : decide ((putT s.tb (trgT m now)).length ≤ 32) = false) : abtH s s0 fr m now = ⟨s0, [], 8⟩ := by unfold abtH; rw [h1, h, hf]; rfl
theorem ab_4 {s s0 : Sv} {fr : Int} {m : Mg} {now : Int} (h1 : decide (judK s.sec m = 1) = false) (h2 : decide (judK s.sec m = 2) = false) (h : decide (judK s.sec m = 3) = true) (hf : decide ((findT s.tb m.i m.t).2.2 < 0) = true) : abtH s s0 fr m now = ⟨s0, [], 6⟩ := by unfold abtH; rw [h1, h2, h, hf]; rfl
theorem ab_5 {s s0 : Sv} {fr : Int} {m : Mg} {now : Int} (h1 : decide (judK s.sec m = 1) = false) (h2 : decide (judK s.sec m = 2) = false) (h : decide (judK s.sec m = 3) = true) (hf : decide ((findT s.tb m.i m.t).2.2 < 0) = false) : abtH s s0 fr m now = ⟨⟨s.no, s.sec, wosT s.tb m.i m.t⟩, [], 0⟩ := by unfold abtH; rw [h1, h2, h, hf]; rfl
theorem ab_6 {s s0 : Sv} {fr : Int} {m : Mg} {now : Int} (h1 : decide (judK s.sec m = 1) = false) (h2 : decide (judK s.sec m = 2) = false) (h : decide (judK s.sec m = 3) = false) : abtH s s0 fr m now = ⟨s0, [], 11⟩ := by unfold abtH; rw [h1, h2, h]; rfl
theorem se_on {x : S2} {w : World} (h : RdE w x.2 x.1.2.1.l) : RwS [x] w := fun y hy => by rw [List.mem_singleton.1 hy]; exact h
end Go.Proofs.YtobfeflheaobiaaDoor

namespace Go.Proofs.YtobfeflheaobiaaDoor
open Go.RowKit
/-! ### rows of what is sent, read; triggers handed over -/
def RdS (w : World) (v : Value) (K : List S2) : Prop := RdZ w v 139 K.length (seCells K) ∧ RwS K w
theorem RdS.keep {w w' : World} {v : Value} {K : List S2} (h : RdS w v K) (e : Ext w w') : RdS w' v K := ⟨h.1.keep e, rwS_keep h.2 e⟩
theorem se_c0 (K : List S2) (j : Nat) (hj : j < K.length) : (seCells K)[j * 139 + 0]? = some (.int .i64 (K.getD j zS2).1.1) := by
  have h := congrArg (fun a : Array Value => a[0]?) (s2_el K j hj)
  simp only [se_n, List.getElem?_toArray] at h
  rw [← h, List.getElem?_take_of_lt (by decide), List.getElem?_drop]
def hk9 (l tb : List Tg) (k : Nat) : List Tg × Nat := hanS (l.take k) (tb, 0)
end Go.Proofs.YtobfeflheaobiaaDoor

namespace Go.Proofs.YtobfeflheaobiaaDoor
open Go.RowKit
/-! ### what is sent of a packet -/
section
variable {fr : Int} {p : Pk} {K : List O2} {KS : List S2} {k : Nat} {t : List Tg} {o : Ot}
theorem ou_take (hk : k < K.length) : (outs K).take (k + 1) = (outs K).take k ++ [(K.getD k zO2).1] := by
  rw [List.take_add_one, outs_at hk]; rfl
theorem sn_put {x : S2} (hk : k < K.length) (h : sends KS = sndK fr p ((outs K).take k)) (hx : sndO fr p (K.getD k zO2).1 = [x.1]) : sends (KS ++ [x]) = sndK fr p ((outs K).take (k + 1)) := by
  rw [sends_app, h, ou_take hk]
  unfold sndK
  rw [List.flatMap_append, List.flatMap_cons, List.flatMap_nil, List.append_nil, hx]
theorem sn_none (hk : k < K.length) (h : sends KS = sndK fr p ((outs K).take k)) (hx : sndO fr p (K.getD k zO2).1 = []) : sends KS = sndK fr p ((outs K).take (k + 1)) := by
  rw [h, ou_take hk]
  unfold sndK
  rw [List.flatMap_append, List.flatMap_cons, List.flatMap_nil, List.append_nil, hx, List.append_nil]
theorem so_1 (h : decide (o.k = 1) = true) : sndO fr p o = [(16 + o.h, dataM o.p, zTg)] ∧ pshO fr o = false := by
  have := of_decide_eq_true h
  refine ⟨by unfold sndO; rw [h]; rfl, by unfold pshO; rw [decide_eq_false (by omega)]; rfl⟩
theorem so_2 (h : decide (o.k = 1) = false) (h2 : decide (o.k = 2) = true) (h3 : decide ((fstE o.p).1 = 2) = true) : sndO fr p o = [(16 + (fstE o.p).2.2, dataM o.p, o.t)] ∧ pshO fr o = false := by
  have := of_decide_eq_true h2
  refine ⟨by unfold sndO; rw [h, h2, h3]; rfl, by unfold pshO; rw [decide_eq_false (by omega)]; rfl⟩
theorem so_3 (h : decide (o.k = 1) = false) (h2 : decide (o.k = 2) = true) (h3 : decide ((fstE o.p).1 = 2) = false) : sndO fr p o = [(-1, dataM o.p, o.t)] ∧ pshO fr o = false := by
  have := of_decide_eq_true h2
  refine ⟨by unfold sndO; rw [h, h2, h3]; rfl, by unfold pshO; rw [decide_eq_false (by omega)]; rfl⟩
theorem so_4 (h : decide (o.k = 1) = false) (h2 : decide (o.k = 2) = false) (h0 : o.k = 3) (h4 : decide (o.y = 6) = true) (h5 : decide (16 ≤ fr) = true) : sndO fr p o = [(fr, pushG (fstI p), zTg)] ∧ pshO fr o = true := by
  refine ⟨by unfold sndO; rw [h, h2, h4, h5]; rfl, by unfold pshO; rw [decide_eq_true h0, h4, h5]; rfl⟩
theorem so_5 (h : decide (o.k = 1) = false) (h2 : decide (o.k = 2) = false) (h4 : decide (o.y = 6) = false) : sndO fr p o = [] ∧ pshO fr o = false := by
  refine ⟨by unfold sndO; rw [h, h2, h4]; rfl, by unfold pshO; rw [h4, Bool.false_and, Bool.and_false]⟩
theorem so_6 (h : decide (o.k = 1) = false) (h2 : decide (o.k = 2) = false) (h4 : decide (16 ≤ fr) = false) : sndO fr p o = [] ∧ pshO fr o = false := by
  refine ⟨by unfold sndO; rw [h, h2, h4, Bool.and_false]; rfl, by unfold pshO; rw [h4, Bool.and_false, Bool.and_false]⟩
theorem step_kind (ho : o ∈ stepO t p) : o.k = 1 ∨ o.k = 2 ∨ o.k = 3 := by
  cases h : decide ((fstE p).1 = 2)
  · cases h1 : decide (p.2.1 = 0)
    · cases h2 : decide ((mtF t (fstE p).2.1).length = 0)
      · rw [step_map h h1 h2] at ho
        obtain ⟨z, _, rfl⟩ := List.mem_map.1 ho
        exact .inr (.inl rfl)
      · cases h3 : decide (1 < p.1.length)
        · rw [step_none h h1 h2 h3, List.mem_singleton] at ho
          rw [ho]; exact .inr (.inr rfl)
        · rw [stepO_next h h1 h2 h3, List.mem_singleton] at ho
          rw [ho]; exact .inr (.inl rfl)
    · rw [step_hops h h1, List.mem_singleton] at ho
      rw [ho]; exact .inr (.inr rfl)
  · rw [step_host h, List.mem_singleton] at ho
    rw [ho]; exact .inl rfl
theorem first_kind (h : rightP p = true) : 1 ≤ p.1.length ∧ ((fstE p).1 = 1 ∨ (fstE p).1 = 2) := by
  have hl := (rightP_iff.1 h).1
  refine ⟨hl.1, ?_⟩
  have hm : fstE p ∈ p.1 := by
    show p.1.getD 0 _ ∈ p.1
    rw [List.getD_eq_getElem?_getD, List.getElem?_eq_getElem hl.1]; exact List.getElem_mem _
  have := hl.2.2 _ hm
  unfold isE at this
  simp only [Bool.or_eq_true, Bool.and_eq_true, decide_eq_true_eq] at this
  omega
theorem first_host (h : rightP p = true) (h2 : (fstE p).1 = 2) : 0 ≤ (fstE p).2.2 ∧ (fstE p).2.2 ≤ 15 := by
  have hl := (rightP_iff.1 h).1
  have hm : fstE p ∈ p.1 := by
    show p.1.getD 0 _ ∈ p.1
    rw [List.getD_eq_getElem?_getD, List.getElem?_eq_getElem hl.1]; exact List.getElem_mem _
  have := isE_host (hl.2.2 _ hm) (by omega)
  omega
theorem snd_add {x : S2} (h : ∀ w9, RwU K w9 → RwS KS w9) (hx : ∀ w9, RwU K w9 → RdE w9 x.2 x.1.2.1.l) : ∀ w9, RwU K w9 → RwS (KS ++ [x]) w9 := fun w9 h9 => rwS_snoc (h w9 h9) (hx w9 h9)
theorem len_snoc {x : S2} (h : KS.length ≤ k) : (KS ++ [x]).length ≤ k + 1 := by rw [List.length_append]; exact Nat.succ_le_succ h
end
section
variable {P : Program} {ρ : Operand → Value} {d : Option Tmp} {ty : TypeId} {pos : String} {af : Array Edge} {g : Option (Nat × Bool)} {y0 y1 : Operand} {t : TypeId}
theorem ru_build_m01 {k : Int} {i : Id} (S : Stt P t mZs) (h0 : ρ y0 = .int .i64 k) (h1 : ρ y1 = .agg (idArr i)) : RunsTo P ⟨d, .build t #[(0, y0), (1, y1)], ty, pos, af, g⟩ ρ (.agg (mArr ⟨k, i, (0, 0#256, 0), [], 0, ⟨#[]⟩, ⟨#[]⟩⟩ nilV)) := by
  have := ru_build_st (P := P) (ρ := ρ) (d := d) (ty := ty) (pos := pos) (af := af) (g := g) (parts := #[(0, y0), (1, y1)]) S [(0, .int .i64 k), (1, .agg (idArr i))] (by simp [h0, h1]) (fun j u hm => by
    simp only [List.mem_cons, Prod.mk.injEq, List.not_mem_nil, or_false] at hm
    rcases hm with ⟨rfl, rfl⟩ | ⟨rfl, rfl⟩
    · exact ⟨_, rfl, rfl⟩
    · exact ⟨_, rfl, by show (idArr _).size = _; rw [idArr_size]; rfl⟩) (D := (mArr ⟨k, i, (0, 0#256, 0), [], 0, ⟨#[]⟩, ⟨#[]⟩⟩ nilV).toList) (by
      show [Value.int .i64 k] ++ ((idArr i).toList ++ ((Value.int .i64 0 :: (List.replicate 32 (Value.int .u8 0) ++ [Value.int .i64 0])) ++ ([Value.slice none 0 0] ++ ([Value.int .i64 0] ++ ([Value.string ⟨#[]⟩] ++ ([Value.string ⟨#[]⟩] ++ [])))))) = _
      rw [z34]; rfl)
  exact this
end
theorem pck_y {sv : Sv} {fr : Int} {m : Mg} {K : List O2} {KS : List S2} (hK : outs K = stepO sv.tb (pkOf m)) (h : sends KS = sndK fr (pkOf m) ((outs K).take K.length)) (h0 : decide (16 ≤ fr) = true) (h1 : decide ((fstE (pkOf m)).1 = 1) = true) (h2 : ((outs K).take K.length).any (pshO fr) = false) : sends (KS ++ [((fr, cachG (fstI (pkOf m)) sv.no, zTg), nilV)]) = pckL sv fr m := by
  rw [← outs_len K, List.take_length, hK] at h h2
  rw [sends_app, h]
  unfold pckL
  rw [h0, h1, h2]; rfl
theorem pck_n {sv : Sv} {fr : Int} {m : Mg} {K : List O2} {KS : List S2} (hK : outs K = stepO sv.tb (pkOf m)) (h : sends KS = sndK fr (pkOf m) ((outs K).take K.length)) (h0 : (decide (16 ≤ fr) && (decide ((fstE (pkOf m)).1 = 1) && !((outs K).take K.length).any (pshO fr))) = false) : sends KS = pckL sv fr m := by
  rw [← outs_len K, List.take_length, hK] at h h0
  rw [h]
  unfold pckL
  rw [h0, cond_false, List.append_nil]
theorem hb_back {sv : Sv} {fr : Int} {m : Mg} {now : Int} (h : hndB sv fr m now = true) : rightV sv = true ∧ rightM m = true ∧ decide (fr < 0) = false ∧ decide (31 < fr) = false ∧ decide (now < 0) = false ∧ decide (1099511627776 < now) = false ∧ takenM m = true := by
  unfold hndB at h
  simp only [Bool.and_eq_true, decide_eq_true_eq] at h
  obtain ⟨a, b, c, d, e, f, g⟩ := h
  exact ⟨a, b, decide_eq_false (by omega), decide_eq_false (by omega), decide_eq_false (by omega), decide_eq_false (by omega), g⟩
theorem hb_no {sv : Sv} {fr : Int} {m : Mg} {now : Int} (h : ¬ (rightV sv = true ∧ rightM m = true ∧ decide (fr < 0) = false ∧ decide (31 < fr) = false ∧ decide (now < 0) = false ∧ decide (1099511627776 < now) = false ∧ takenM m = true)) : hndB sv fr m now = false := by
  cases e : hndB sv fr m now
  · rfl
  · exact absurd (hb_back e) h
end Go.Proofs.YtobfeflheaobiaaDoor

namespace Go.Proofs.YtobfeflheaobiaaDoor
open Go.RowKit
/-! ### package server's answers (contracts); what the laws take -/
def HdP (w : World) (vt vs : Value) (tb : List Tg) (l : List Ent) (H : Hr) : Asrt := fun v w' => ∃ vt' ul K ks, v = .tuple #[.agg (svArr H.s.no H.s.sec vt'), ul, .int .i64 H.e] ∧ sends K = H.l ∧ St w [.grp ks fun w9 => RdT w9 vt tb → RdE w9 vs l → RdT w9 vt' H.s.tb ∧ RdZ w9 ul 139 K.length (seCells K) ∧ RwS K w9] w'
def fewV (s : Sv) : Sv := ⟨s.no, s.sec.extract 0 (min s.sec.size 70), s.tb.take (min s.tb.length 34)⟩
theorem fewV_len (s : Sv) : (fewV s).tb.length ≤ 34 := by unfold fewV; simp only [List.length_take]; omega
theorem fewV_rd {w : World} {vt : Value} {s : Sv} (h : RdT w vt s.tb) : RdT w (cutV vt (min s.tb.length 34)) (fewV s).tb := tg_take h _ (Nat.min_le_left _ _)
def sv1 : Sv := ⟨1, ByteArray.empty, []⟩
theorem al16 : hndH sv1 18 mI5 0 = ⟨sv1, [(19, askM ByteArray.empty mI5, zTg)], 0⟩ := by
  have a1 : aboutM mI5 = true := right_about (by rw [isE_iff]; exact .inr ⟨rfl, rfl, by decide, by decide⟩) (.inl ⟨rfl, by decide, by decide, rfl⟩)
  obtain ⟨_, e⟩ := hnd_y (s := sv1) (fr := 18) (m := mI5) (now := 0) (rightV_iff.2 ⟨by decide, by decide, by decide, rt0⟩) a1 (by decide) (by decide) (by decide) (by decide)
  rw [e, ab_1 (by rfl)]
  rfl
theorem sends_one {K : List S2} {x : Se} (h : sends K = [x]) : K.length = 1 ∧ (K.getD 0 zS2).1 = x := by
  match K, h with
  | [y], h => exact ⟨rfl, (List.cons.inj h).1⟩
  | [], h => cases h
  | _ :: _ :: _, h => cases (List.cons.inj h).2
theorem se_c1 (K : List S2) (j : Nat) (hj : j < K.length) : (seCells K)[j * 139 + 1]? = some (.int .i64 (K.getD j zS2).1.2.1.k) := by
  have h := congrArg (fun a : Array Value => a[1]?) (s2_el K j hj)
  simp only [se_k, List.getElem?_toArray] at h
  rw [← h, List.getElem?_take_of_lt (by decide), List.getElem?_drop]
theorem snd_le (fr : Int) (p : Pk) (R : List Ot) : (sndK fr p R).length ≤ R.length := by
  unfold sndK
  induction R with
  | nil => exact Nat.le_refl _
  | cons o R ih =>
    rw [List.flatMap_cons, List.length_append, List.length_cons]
    have : (sndO fr p o).length ≤ 1 := by
      unfold sndO
      cases decide (o.k = 1) <;> cases decide (o.k = 2) <;> cases decide ((fstE o.p).1 = 2) <;> cases (decide (o.y = 6) && decide (16 ≤ fr)) <;> simp [cond]
    omega
theorem hnd_len {s : Sv} {fr : Int} {m : Mg} {now : Int} (ht : s.tb.length ≤ 900) : (hndH s fr m now).l.length ≤ 1000 := by
  cases hb : hndB s fr m now with
  | false => rw [hnd_bad hb]; exact Nat.zero_le _
  | true =>
    by_cases hk : m.k = 1
    · rw [hnd_data hb hk]
      show (pckL _ _ _).length ≤ 1000
      unfold pckL
      rw [List.length_append]
      have h1 := snd_le fr (pkOf m) (stepO (expV s now).tb (pkOf m))
      have h2 := (step_len (t := (expV s now).tb) (p := pkOf m)).2
      have h3 : (expV s now).tb.length ≤ s.tb.length := List.length_filter_le _ _
      have h4 : (bif decide (16 ≤ fr) && (decide ((fstE (pkOf m)).1 = 1) && !(stepO (expV s now).tb (pkOf m)).any (pshO fr)) then [((fr, cachG (fstI (pkOf m)) (expV s now).no, zTg) : Se)] else []).length ≤ 1 := by
        cases (decide (16 ≤ fr) && (decide ((fstE (pkOf m)).1 = 1) && !(stepO (expV s now).tb (pkOf m)).any (pshO fr))) <;> simp [cond]
      omega
    · rw [hnd_abt hb hk]
      rcases abt_cases (expV s now) s fr m now with ⟨_, e⟩ | ⟨_, _, e⟩ | ⟨_, _, e⟩ | ⟨_, _, e⟩ | ⟨_, _, e⟩ | ⟨_, e⟩ <;> rw [e] <;> simp
end Go.Proofs.YtobfeflheaobiaaDoor
namespace Go.Proofs.YtobfeflheaobiaaDoor
open Go.RowKit
section
variable {m : Mg}
end
end Go.Proofs.YtobfeflheaobiaaDoor

namespace Go.Proofs.YtobfeflheaobiaaDoor
open Go.RowKit
/-! ### Hand and Give of package server (contracts) -/
section
variable {s : Sv} {l : List Tg} {a b : Id}
end
end Go.Proofs.YtobfeflheaobiaaDoor

namespace Go.Proofs.YtobfeflheaobiaaDoor
open Go.RowKit
/-! ### what ServerTimes looks at -/
theorem se_ti (n : Int) (m : Mg) (v : Value) (t : Tg) : (seArr n m v t).extract 72 (72 + 32) = idArr t.1 := by
  rw [← tgArr_id t, ← se_t n m v t, Array.extract_extract]; rfl
theorem se_te (n : Int) (m : Mg) (v : Value) (t : Tg) : (seArr n m v t).extract 104 (104 + 34) = eArr t.2.1 := by
  rw [← tgArr_tg t, ← se_t n m v t, Array.extract_extract]; rfl
theorem se_tu (n : Int) (m : Mg) (v : Value) (t : Tg) : (seArr n m v t)[138]? = some (.int .i64 t.2.2) := by
  have h := tgArr_until t
  rw [← se_t n m v t, Array.getElem?_extract] at h
  simpa [seArr_size] using h
theorem tm_at {s : Sv} {i : Id} {now : Int} {K : List S2} {k : Nat} (hs : rightV s = true) (t0 : 0 ≤ now) (t1 : now ≤ 1099511627776) (h : sends K = (hndH s 0 (dxM i) now).l) (hk : k < K.length) : now < (K.getD k zS2).1.2.2.2.2 ∧ (K.getD k zS2).1.2.1.d = ⟨#[120]⟩ ∧ findT s.tb (K.getD k zS2).1.2.2.1 (K.getD k zS2).1.2.2.2.1 = (K.getD k zS2).1.2.2 := by
  rw [(tm_1 (i := i) hs t0 t1).2] at h
  have hm : (K.getD k zS2).1 ∈ sends K := List.mem_map.2 ⟨_, s2_mem hk, rfl⟩
  rw [h] at hm
  obtain ⟨y, hy, e⟩ := List.mem_map.1 hm
  obtain ⟨a, b⟩ := tm_2 hs hy
  rw [← e]
  exact ⟨a, rfl, b⟩
theorem tm_le {s : Sv} {i : Id} {now : Int} (hs : rightV s = true) (t0 : 0 ≤ now) (t1 : now ≤ 1099511627776) : (hndH s 0 (dxM i) now).e = 0 ∧ (hndH s 0 (dxM i) now).s.tb.length ≤ s.tb.length := by
  rw [(tm_1 (i := i) hs t0 t1).2]
  exact ⟨rfl, List.length_filter_le _ _⟩
theorem tm_end {s : Sv} {i : Id} {K : List S2} (hs : rightV s = true) (h : sends K = (hndH s 0 (dxM i) 1099511627776).l) : (hndH s 0 (dxM i) 1099511627776).e = 0 ∧ K.length = 0 ∧ (hndH s 0 (dxM i) 1099511627776).s.tb.length = 0 := by
  obtain ⟨a, b⟩ := tm_3 i hs
  rw [(tm_1 (i := i) hs (by decide) (by decide)).2, b] at h
  refine ⟨(tm_le hs (by decide) (by decide)).1, by rw [← sends_len, h]; rfl, ?_⟩
  rw [(tm_1 (i := i) hs (by decide) (by decide)).2]
  show (expV s 1099511627776).tb.length = 0
  rw [a]; rfl
theorem tm_no {s : Sv} {m : Mg} {fr now : Int} (hs : rightV s = false) : hndH s fr m now = ⟨zSv, [], 1⟩ := hnd_bad (hb_no fun h9 => by have h8 := h9.1; rw [hs] at h8; cases h8)
end Go.Proofs.YtobfeflheaobiaaDoor

namespace Go.Proofs.YtobfeflheaobiaaDoor
open Go.RowKit
/-! ### what ServerAsks looks at -/
section
variable {s A B : Sv} {i : Id} {ho l : Nat} {now : Int}
end
end Go.Proofs.YtobfeflheaobiaaDoor

namespace Go.Proofs.YtobfeflheaobiaaDoor
open Go.RowKit
/-! ### what ServerAdmits looks at -/
section
variable {s : Sv} {fr : Int} {m : Mg} {now : Int} {y : Tg}
end
end Go.Proofs.YtobfeflheaobiaaDoor

namespace Go.Proofs.YtobfeflheaobiaaDoor
open Go.RowKit Go.ChangeShapes Go.WideShapes Go.ChangeAt
/-! ### slices that come in -/
theorem open_slK {H α : Type} {enc : TypeId × Value → H} {P : Program} {W : World} {ts t : TypeId} {fuel : Nat} {cs : List Value} {x : DataW H × List MemPlace} (C : α → Array Value) (sz : Nat) (h0 : 0 < sz) (hC : ∀ a, (C a).size = sz) (z : α)
    (hts : P.underlying ts = some (.slice t)) (hct : P.cellsOf t = sz) (op : ∀ (fuel : Nat) (cs : List Value) (x : DataW H × List MemPlace), DataW.trod enc P W 0 (fun _ => true) true fuel t cs = some x → ∃ l : α, cs = (C l).toList)
    (hf : DataW.trod enc P W 0 (fun _ => true) true fuel ts cs = some x) : ∃ (v : Value) (ls : List α), cs = [v] ∧ RdZ W v sz ls.length (ls.flatMap fun a => (C a).toList) := by
  rcases Go.Deep.open_slice hts hf with ⟨hcs, _⟩ | ⟨a', len, cap, m, k, D, Pl, hcs, _, hl, _, hm, _, hel⟩
  · exact ⟨_, [], hcs, by simp, .inl ⟨rfl, rfl⟩⟩
  · have hml : len ≤ m := by rw [hm]; split <;> omega
    have each : ∀ i, ∃ l : α, i < len → Has W (a'.add (i * sz)) (C l) := fun i => by
      by_cases hi : i < len
      · obtain ⟨cs', hc1, hc2⟩ := hel i (by omega)
        obtain ⟨l, rfl⟩ := op _ _ _ hc2
        refine ⟨l, fun _ j u hj => ?_⟩
        rw [hct] at hc1
        obtain ⟨_, hlen, hall⟩ := World.cells?_some hc1
        have hj34 : j < sz := by have := (Array.getElem?_eq_some_iff.1 hj).1; rw [hC] at this; exact this
        have := hall j hj34
        rw [this, Array.getElem?_toList]; exact hj
      · exact ⟨z, fun h9 => absurd h9 hi⟩
    obtain ⟨L, hL⟩ := Classical.axiomOfChoice each
    refine ⟨_, (List.range len).map L, hcs, ?_, .inr ⟨a', cap, by simp, by simpa using hl, ?_⟩⟩
    · exact cells_len _ sz (fun a => by rw [Array.length_toList, hC]) _
    · refine has_flat _ sz h0 (fun x => by rw [Array.length_toList, hC]) _ fun i hi => ?_
      have hi' : i < len := by simpa using hi
      have := hL i hi'
      simpa using this
end Go.Proofs.YtobfeflheaobiaaDoor

namespace Go.Proofs.YtobfeflheaobiaaDoor
open Go.RowKit Go.ChangeShapes Go.WideShapes Go.ChangeAt
/-! ### servers that come in -/
theorem open_sv {H : Type} {enc : TypeId × Value → H} {P : Program} {W : World} {r : Reach} {b0 : Nat} {tm tz ts tg te tn ti e : TypeId} {g0 g1 g2 f0 f1 f2 k0 k1 k2 : Field} {v : Value} {d : DataW H} {ps : List MemPlace} (T : IdTy P ti e) (hc : P.cellsOf ti = 32) (hce : P.cellsOf e = 1) (hn : P.underlying tn = some (.int .i64)) (hcn : P.cellsOf tn = 1)
    (hz : P.underlying tz = some .string) (hcz : P.cellsOf tz = 1) (hcs : P.cellsOf ts = 1)
    (hte : P.underlying te = some (.struct #[f0, f1, f2])) (h0 : f0.type = tn) (h1 : f1.type = ti) (h2 : f2.type = tn) (o0 : f0.offset = 0) (o1 : f1.offset = 1) (o2 : f2.offset = 33) (hcte : P.cellsOf te = 34)
    (hts : P.underlying ts = some (.slice tg)) (htg : P.underlying tg = some (.struct #[k0, k1, k2])) (j0 : k0.type = ti) (j1 : k1.type = te) (j2 : k2.type = tn) (p0 : k0.offset = 0) (p1 : k1.offset = 32) (p2 : k2.offset = 66) (hctg : P.cellsOf tg = 67)
    (htm : P.underlying tm = some (.struct #[g0, g1, g2])) (ht0 : g0.type = tn) (ht1 : g1.type = tz) (ht2 : g2.type = ts) (ho0 : g0.offset = 0) (ho1 : g1.offset = 1) (ho2 : g2.offset = 2) (hctm : P.cellsOf tm = 3)
    (hval : Value.okWide P W r b0 tm v) (h : DataW.Trod enc P W 0 (fun _ => true) true tm v d ps) : ∃ (p : Sv) (u : Value), v = .agg (svArr p.no p.sec u) ∧ RdT W u p.tb := by
  have hv : ∃ cs, v = .agg cs := by
    unfold Value.okWide at hval
    simp only [htm] at hval
    obtain ⟨cs, h9, _⟩ := hval
    exact ⟨cs, h9⟩
  obtain ⟨cs, rfl⟩ := hv
  obtain ⟨fuel, hf⟩ := h
  obtain ⟨xs, n, hcells, _, hl, hxl, hel⟩ := DataW.trod_struct htm hf
  have hcl : cs.toList.length = 3 := by rw [← hctm]; simpa [Value.cells] using hl
  have hx3 : xs.length = 3 := by simpa using hxl
  have e0 := hel 0 g0 rfl
  have e1 := hel 1 g1 rfl
  have e2 := hel 2 g2 rfl
  rw [ht0, ho0, hcn, List.getElem?_eq_getElem (by omega)] at e0
  rw [ht1, ho1, hcz, List.getElem?_eq_getElem (by omega)] at e1
  rw [ht2, ho2, hcs, List.getElem?_eq_getElem (by omega)] at e2
  obtain ⟨k, hk9, _⟩ := DataW.trod_int hn e0
  obtain ⟨d9, hd9, _⟩ := DataW.trod_string hz e1
  obtain ⟨u, ls, hu, hls⟩ := open_slK tgArr 67 (by decide) tgArr_size zTg hts hctg (fun _ _ _ h => open_tgL T hc hce hn hcn hte h0 h1 h2 o0 o1 o2 hcte htg j0 j1 j2 p0 p1 p2 hctg h) e2
  refine ⟨⟨k, d9, ls⟩, u, ?_, hls⟩
  have key : cs.toList = (svArr k d9 u).toList := by
    show cs.toList = [.int .i64 k] ++ ([.string d9] ++ [u])
    simp only [Value.cells] at hk9 hd9 hu ⊢
    have hd2 : cs.toList.drop 2 = [u] := by
      rw [List.take_of_length_le (by rw [List.length_drop, hcl]; omega)] at hu; exact hu
    have hsplit : cs.toList = cs.toList.take 1 ++ ((cs.toList.drop 1).take 1 ++ cs.toList.drop 2) := by
      rw [show cs.toList.drop 2 = (cs.toList.drop 1).drop 1 from by rw [List.drop_drop], List.take_append_drop, List.take_append_drop]
    rw [hd2, hd9, show cs.toList.take 1 = [.int .i64 k] from hk9] at hsplit
    exact hsplit
  rw [Array.toList_inj.1 key]
end Go.Proofs.YtobfeflheaobiaaDoor

namespace Go.Proofs.YtobfeflheaobiaaDoor
open Go.RowKit
/-! ### interfaces: a value put behind one, asked for its type, a method called through it -/
section
variable {P : Program} {ρ : Operand → Value} {d : Option Tmp} {ty t t' : TypeId} {pos : String} {af : Array Edge} {g : Option (Nat × Bool)} {x : Operand}
theorem ru_assert {u V : Value} {c : Bool} (hA : ∀ w, (Instr.typeAssert u t t' c).run P w = .ok V w) (hx : ρ x = u) : RunsTo P ⟨d, .typeAssert x t t' c, ty, pos, af, g⟩ ρ V := fun w => by
  simp [execOp, hx, hA]
end
section
variable {P : Program} {ops : Array Oper} {Q : Act → World → Prop} {l : List Oper} {a : Act} {w w0 : World} {N : Nat} {L : List (Nat × Value)} {Df : List Deferred} {B : List Own} {d : Tmp} {ty : TypeId} {pos : String} {af : Array Edge}
end
section
variable {P : Program} {ops : List Oper} {K : Act → World → Prop} {l : List Oper} {a : Act} {w : World} {N : Nat} {L : List (Nat × Value)} {Df : List Deferred} {d : Tmp} {ty : TypeId} {pos : String} {af : Array Edge}
end
end Go.Proofs.YtobfeflheaobiaaDoor

namespace Go.Proofs.YtobfeflheaobiaaDoor
open Go.RowKit
/-! ### package server's own: what it makes of a message, ahead of what it says to whom it was from -/
def jugH (s : Sv) (fr : Int) (m : Mg) (now : Int) : Hr :=
  bif decide (judK s.sec m = 1) then ⟨s, [(16 + m.t.2.2, judA s.sec m, zTg)], 0⟩ else
  bif decide (judK s.sec m = 2) then ⟨⟨s.no, s.sec, putR s.tb (trgT m now)⟩, [(fr, ackM m, zTg)], putE s.tb (trgT m now)⟩ else
  bif decide (judK s.sec m = 3) then ⟨⟨s.no, s.sec, drpL s.tb m.i m.t⟩, [], drpE s.tb m.i m.t⟩ else ⟨s, [], 11⟩
section
variable {s s0 : Sv} {fr : Int} {m : Mg} {now : Int}
theorem jug_1 (h : decide (judK s.sec m = 1) = true) : jugH s fr m now = ⟨s, [(16 + m.t.2.2, judA s.sec m, zTg)], 0⟩ := by unfold jugH; rw [h]; rfl
theorem jug_2 (h1 : decide (judK s.sec m = 1) = false) (h : decide (judK s.sec m = 2) = true) : jugH s fr m now = ⟨⟨s.no, s.sec, putR s.tb (trgT m now)⟩, [(fr, ackM m, zTg)], putE s.tb (trgT m now)⟩ := by unfold jugH; rw [h1, h]; rfl
theorem jug_3 (h1 : decide (judK s.sec m = 1) = false) (h2 : decide (judK s.sec m = 2) = false) (h : decide (judK s.sec m = 3) = true) : jugH s fr m now = ⟨⟨s.no, s.sec, drpL s.tb m.i m.t⟩, [], drpE s.tb m.i m.t⟩ := by unfold jugH; rw [h1, h2, h]; rfl
theorem jug_4 (h1 : decide (judK s.sec m = 1) = false) (h2 : decide (judK s.sec m = 2) = false) (h : decide (judK s.sec m = 3) = false) : jugH s fr m now = ⟨s, [], 11⟩ := by unfold jugH; rw [h1, h2, h]; rfl
theorem jug_abt (hs : rightT s.tb = true) (ha : aboutM m = true) (h0 : 0 ≤ now) : (jugH s fr m now).e ≠ 1 ∧ (abtH s s0 fr m now).e = (jugH s fr m now).e ∧ ((jugH s fr m now).e = 0 → abtH s s0 fr m now = jugH s fr m now) ∧ (¬ (jugH s fr m now).e = 0 → abtH s s0 fr m now = ⟨s0, [], (jugH s fr m now).e⟩) := by
  cases h1 : decide (judK s.sec m = 1) with
  | true => rw [jug_1 h1, ab_1 h1]; exact ⟨by show ¬ (0 : Int) = 1; decide, rfl, fun _ => rfl, fun h => absurd rfl h⟩
  | false =>
    cases h2 : decide (judK s.sec m = 2) with
    | true =>
      have hm : mayT (trgT m now) = true := trg_may ha h0 (of_decide_eq_false (jd_k6 h2))
      cases hf : decide ((putT s.tb (trgT m now)).length ≤ 32) with
      | true =>
        obtain ⟨e1, e2⟩ := tb_ok hs hm hf
        rw [jug_2 h1 h2, ab_2 h1 h2 hf, e1, e2]; exact ⟨by show ¬ (0 : Int) = 1; decide, rfl, fun _ => rfl, fun h => absurd rfl h⟩
      | false =>
        obtain ⟨e1, e2⟩ := tb_full hs hm hf
        rw [jug_2 h1 h2, ab_3 h1 h2 hf, e1]; exact ⟨by show ¬ (8 : Int) = 1; decide, rfl, fun h => absurd (show (8 : Int) = 0 from h) (by decide), fun _ => rfl⟩
    | false =>
      cases h3 : decide (judK s.sec m = 3) with
      | true =>
        cases hf : decide ((findT s.tb m.i m.t).2.2 < 0) with
        | true =>
          obtain ⟨e1, e2⟩ := td_non hs hf
          rw [jug_3 h1 h2 h3, ab_4 h1 h2 h3 hf, e1]; exact ⟨by show ¬ (6 : Int) = 1; decide, rfl, fun h => absurd (show (6 : Int) = 0 from h) (by decide), fun _ => rfl⟩
        | false =>
          obtain ⟨e1, e2⟩ := td_is hs hf
          rw [jug_3 h1 h2 h3, ab_5 h1 h2 h3 hf, e1, e2]; exact ⟨by show ¬ (0 : Int) = 1; decide, rfl, fun _ => rfl, fun h => absurd rfl h⟩
      | false => rw [jug_4 h1 h2 h3, ab_6 h1 h2 h3]; exact ⟨by show ¬ (11 : Int) = 1; decide, rfl, fun h => absurd (show (11 : Int) = 0 from h) (by decide), fun _ => rfl⟩
end
/-- a message, as what it is to a server: about a trigger, with data, any other one -/
def isC (m : Mg) : Bool := decide (m.k = 2) || (decide (m.k = 4) || decide (m.k = 6))
def tkV (c p o : TypeId) (m : Mg) (vs : Value) : Value := bif isC m then .iface c (.agg (mArr m vs)) else bif decide (m.k = 1) then .iface p (.agg (mArr m vs)) else .iface o (.agg #[])
noncomputable def takH (s : Sv) (fr : Int) (m : Mg) (now : Int) : Hr := bif isC m then jugH s fr m now else bif decide (m.k = 1) then ⟨s, pckL s fr m, 0⟩ else ⟨zSv, [], 1⟩
section
variable {s : Sv} {fr : Int} {m : Mg} {now : Int}
theorem isC_about (h : isC m = true) (hr : rightM m = true) : aboutM m = true := by
  unfold isC at h
  simp only [Bool.or_eq_true, decide_eq_true_eq] at h
  exact about_iff.2 ⟨hr, h⟩
theorem taken_isC (hr : rightM m = true) : takenM m = (isC m || decide (m.k = 1)) := by
  unfold takenM
  cases h : isC m with
  | true => rw [isC_about h hr, Bool.or_true, Bool.true_or]
  | false =>
    have : aboutM m = false := by
      cases ha : aboutM m with
      | false => rfl
      | true =>
        have := (about_iff.1 ha).2
        unfold isC at h
        simp only [Bool.or_eq_false_iff, decide_eq_false_iff_not] at h
        omega
    rw [this, Bool.or_false, Bool.false_or]
end
theorem expL_y {l : List Tg} (h : rightT l = true) (now : Int) : expL l now = expF l now := by unfold expL; rw [h]; rfl
theorem mArr_whole (m : Mg) (v : Value) : (mArr m v).extract 0 (0 + 71) = mArr m v := by
  rw [Nat.zero_add, ← mArr_size m v, Array.extract_size]
/-- a slice, whatever the value; one cell -/
def slV (v : Value) : Value := match v with | .slice p n c => .slice p n c | _ => nilV
theorem slV_one (v : Value) : (slV v).oneCell' = true := by cases v <;> rfl
theorem slV_rd {w : World} {v : Value} {sz n : Nat} {xs : List Value} (h : RdZ w v sz n xs) : slV v = v := by
  obtain ⟨a, c, rfl⟩ := h.len; rfl
section
variable {m : Mg}
end
/-! builds -/
def clZ : List (List Value) := [mZs.flatten]
section
variable {P : Program} {ρ : Operand → Value} {d : Option Tmp} {ty : TypeId} {pos : String} {af : Array Edge} {g : Option (Nat × Bool)} {x y : Operand} {t : TypeId}
theorem ru_build_cl {m : Mg} {v : Value} (S : Stt P t clZ) (hx : ρ x = .agg (mArr m v)) : RunsTo P ⟨d, .build t #[(0, x)], ty, pos, af, g⟩ ρ (.agg (mArr m v)) := by
  have := ru_build_st (P := P) (ρ := ρ) (d := d) (ty := ty) (pos := pos) (af := af) (g := g) (parts := #[(0, x)]) S [(0, .agg (mArr m v))] (by simp [hx]) (fun j u hm => by
    simp only [List.mem_cons, Prod.mk.injEq, List.not_mem_nil, or_false] at hm
    obtain ⟨rfl, rfl⟩ := hm
    exact ⟨_, rfl, by show (mArr m v).size = _; rw [mArr_size]; rfl⟩) (D := (mArr m v).toList) (by
      show (mArr m v).toList ++ [] = _
      rw [List.append_nil])
  simpa using this
theorem ru_build_oth (S : Stt P t []) : RunsTo P ⟨d, .build t #[], ty, pos, af, g⟩ ρ (.agg #[]) :=
  ru_build_st (P := P) (ρ := ρ) (d := d) (ty := ty) (pos := pos) (af := af) (g := g) (parts := #[]) S [] (by simp) (fun i v hm => by simp at hm) (D := []) rfl
theorem ru_build_se2 {n : Int} {m : Mg} {v : Value} (S : Stt P t seZ) (hx : ρ x = .int .i64 n) (hy : ρ y = .agg (mArr m v)) : RunsTo P ⟨d, .build t #[(0, x), (1, y)], ty, pos, af, g⟩ ρ (.agg (seArr n m v zTg)) := by
  have := ru_build_st (P := P) (ρ := ρ) (d := d) (ty := ty) (pos := pos) (af := af) (g := g) (parts := #[(0, x), (1, y)]) S [(0, .int .i64 n), (1, .agg (mArr m v))] (by simp [hx, hy]) (fun j u hm => by
    simp only [List.mem_cons, Prod.mk.injEq, List.not_mem_nil, or_false] at hm
    rcases hm with ⟨rfl, rfl⟩ | ⟨rfl, rfl⟩
    · exact ⟨_, rfl, rfl⟩
    · exact ⟨_, rfl, by show (mArr m v).size = _; rw [mArr_size]; rfl⟩) (D := seL n m v zTg) (by
      show [Value.int .i64 n] ++ ((mArr m v).toList ++ (tgZ.flatten ++ [])) = _
      rw [List.append_nil, ← tgL_zero]; rfl)
  exact this
end
/-! contracts -/
def LsP (w : World) (sv : Sv) (vt : Value) (T : List Tg) : Asrt := fun v w' => ∃ p ks, v = .agg (svArr sv.no sv.sec p) ∧ St w [.grp ks fun w9 => RdT w9 vt sv.tb → RdT w9 p T] w'
def SoP (w : World) (vs : Value) (l : List Ent) (L : List Se) : Asrt := fun v w' => ∃ K ks, sends K = L ∧ St w [.grp ks fun w9 => RdE w9 vs l → RdZ w9 v 139 K.length (seCells K) ∧ RwS K w9] w'
section
variable {w w' : World} {vt vs : Value} {sv : Sv} {l : List Ent} {H : Hr} {N M : TypeId} {e : Int} {ks : List Nat} {T : List Tg} {x : Se} {L : List Se}
theorem rd_nilS (w : World) : RdZ w nilV 139 ([] : List S2).length (seCells []) := ⟨rfl, .inl ⟨rfl, rfl⟩⟩
theorem hdp_none (hH : H = ⟨sv, [], e⟩) (s : St w [] w') : HdP w vt vs sv.tb l H (.tuple #[.agg (svArr sv.no sv.sec vt), nilV, .int .i64 e]) w' := by
  subst hH
  exact ⟨vt, nilV, [], [], rfl, rfl, s.grp0 fun w9 a _ => ⟨a, rd_nilS _, rwS_nil w9⟩⟩
theorem hdp_ask {u a : Value} (hH : H = ⟨sv, [x], 0⟩) (s : St w [.sl u N 139 1 (seCells [(x, a)]), .grp ks fun w9 => RdE w9 vs l → RdE w9 a x.2.1.l] w') : HdP w vt vs sv.tb l H (.tuple #[.agg (svArr sv.no sv.sec vt), u, .int .i64 0]) w' := by
  subst hH
  obtain ⟨kn, s⟩ := s.grp1 (S' := fun w9 => RdT w9 vt sv.tb → RdE w9 vs l → RdT w9 vt sv.tb ∧ RdZ w9 u 139 [(x, a)].length (seCells [(x, a)]) ∧ RwS [(x, a)] w9) (fun w9 h hs b c => ⟨b, h, se_on (hs c)⟩)
  exact ⟨vt, u, [(x, a)], kn, rfl, rfl, s⟩
theorem hdp_adm {u p : Value} (hH : H = ⟨⟨sv.no, sv.sec, T⟩, [x], e⟩) (hx : x.2.1.l = []) (s : St w [.sl u N 139 1 (seCells [(x, nilV)]), .grp ks fun w9 => RdT w9 vt sv.tb → RdT w9 p T] w') : HdP w vt vs sv.tb l H (.tuple #[.agg (svArr sv.no sv.sec p), u, .int .i64 e]) w' := by
  subst hH
  obtain ⟨kn, s⟩ := s.grp1 (S' := fun w9 => RdT w9 vt sv.tb → RdE w9 vs l → RdT w9 p T ∧ RdZ w9 u 139 [(x, nilV)].length (seCells [(x, nilV)]) ∧ RwS [(x, nilV)] w9) (fun w9 h hs b _ => ⟨hs b, h, se_on (re_nil9 w9 hx rfl)⟩)
  exact ⟨p, u, [(x, nilV)], kn, rfl, rfl, s⟩
theorem hdp_drp {p : Value} (hH : H = ⟨⟨sv.no, sv.sec, T⟩, [], e⟩) (s : St w [.grp ks fun w9 => RdT w9 vt sv.tb → RdT w9 p T] w') : HdP w vt vs sv.tb l H (.tuple #[.agg (svArr sv.no sv.sec p), nilV, .int .i64 e]) w' := by
  subst hH
  exact ⟨p, nilV, [], ks, rfl, rfl, s.weak fun w9 h b _ => ⟨h b, rd_nilS _, rwS_nil w9⟩⟩
theorem hdp_par {u : Value} {K : List S2} (hH : H = ⟨sv, L, 0⟩) (s : St w [.grp ks fun w9 => sends K = L ∧ (RdE w9 vs l → RdZ w9 u 139 K.length (seCells K) ∧ RwS K w9)] w') : HdP w vt vs sv.tb l H (.tuple #[.agg (svArr sv.no sv.sec vt), u, .int .i64 0]) w' := by
  subst hH
  exact ⟨vt, u, K, ks, rfl, (s.getG 0 rfl).1, s.weak fun w9 h b c => ⟨b, h.2 c⟩⟩
theorem hdp_oth {v : Value} (hH : H = ⟨zSv, [], 1⟩) (hv : v = .tuple #[.agg (svArr 0 ByteArray.empty nilV), nilV, .int .i64 1]) {tb : List Tg} (s : St w [] w') : HdP w vt vs tb l H v w' := by
  subst hH; subst hv
  exact ⟨nilV, nilV, [], [], rfl, rfl, s.grp0 fun w9 _ _ => ⟨rt_nilT _, rd_nilS _, rwS_nil w9⟩⟩
end
/-! what Handle comes to -/
def hbK (sv : Sv) (fr : Int) (m : Mg) (now : Int) : Prop := rightV sv = true ∧ rightM m = true ∧ 0 ≤ fr ∧ fr ≤ 31 ∧ 0 ≤ now ∧ now ≤ 1099511627776
section
variable {w w' : World} {vt vs : Value} {sv : Sv} {fr now : Int} {m : Mg} {N M : TypeId} {ks : List Nat}
theorem hbK_b (h : hbK sv fr m now) : hndB sv fr m now = takenM m := by
  obtain ⟨h1, h2, h3, h4, h5, h6⟩ := h
  unfold hndB
  rw [h1, h2, decide_eq_true h3, decide_eq_true h4, decide_eq_true h5, decide_eq_true h6]; rfl
theorem hbK_right (h : hbK sv fr m now) : rightT (expV sv now).tb = true := (rightV_iff.1 (expV_right h.1 now)).2.2.2
theorem tak_1 (h : hbK sv fr m now) (h1 : (takH (expV sv now) fr m now).e = 1) : hndH sv fr m now = ⟨zSv, [], 1⟩ := by
  have hb : takenM m = false := by
    rw [taken_isC h.2.1]
    unfold takH at h1
    cases hc : isC m with
    | true => rw [hc] at h1; exact absurd h1 (jug_abt (s0 := sv) (hbK_right h) (isC_about hc h.2.1) h.2.2.2.2.1).1
    | false =>
      rw [hc, cond_false] at h1
      cases hd : decide (m.k = 1) with
      | true => rw [hd] at h1; exact absurd (show (0 : Int) = 1 from h1) (by decide)
      | false => rfl
  exact hnd_bad ((hbK_b h).trans hb)
theorem tak_ne (h : hbK sv fr m now) (h1 : ¬ (takH (expV sv now) fr m now).e = 1) : ((takH (expV sv now) fr m now).e = 0 → hndH sv fr m now = takH (expV sv now) fr m now) ∧ (¬ (takH (expV sv now) fr m now).e = 0 → hndH sv fr m now = ⟨sv, [], (takH (expV sv now) fr m now).e⟩) := by
  cases hc : isC m with
  | true =>
    have hb : hndB sv fr m now = true := by rw [hbK_b h, taken_isC h.2.1, hc]; rfl
    have hk : ¬ m.k = 1 := fun e => by unfold isC at hc; rw [e] at hc; simp at hc
    have e9 : takH (expV sv now) fr m now = jugH (expV sv now) fr m now := by unfold takH; rw [hc]; rfl
    rw [e9, hnd_abt hb hk]
    obtain ⟨_, _, a, b⟩ := jug_abt (s0 := sv) (fr := fr) (hbK_right h) (isC_about hc h.2.1) h.2.2.2.2.1
    exact ⟨a, b⟩
  | false =>
    cases hd : decide (m.k = 1) with
    | true =>
      have hb : hndB sv fr m now = true := by rw [hbK_b h, taken_isC h.2.1, hd, Bool.or_true]
      have e9 : takH (expV sv now) fr m now = ⟨expV sv now, pckL (expV sv now) fr m, 0⟩ := by unfold takH; rw [hc, hd]; rfl
      rw [e9, hnd_data hb (of_decide_eq_true hd)]
      exact ⟨fun _ => rfl, fun x => absurd rfl x⟩
    | false => exact absurd (by unfold takH; rw [hc, hd]; rfl) h1
theorem hdp_bad (hb : hndB sv fr m now = false) (s : St w [] w') : HdP w vt vs sv.tb m.l (hndH sv fr m now) (.tuple #[.agg (svArr 0 ByteArray.empty nilV), nilV, .int .i64 1]) w' := hdp_oth (hnd_bad hb) rfl s
theorem hdp_1 (h : hbK sv fr m now) (h1 : (takH (expV sv now) fr m now).e = 1) (s : St w [] w') : HdP w vt vs sv.tb m.l (hndH sv fr m now) (.tuple #[.agg (svArr 0 ByteArray.empty nilV), nilV, .int .i64 (takH (expV sv now) fr m now).e]) w' := hdp_oth (tak_1 h h1) (by rw [h1]) s
theorem hdp_e {p : Value} (h : hbK sv fr m now) (h1 : ¬ (takH (expV sv now) fr m now).e = 1) (h0 : ¬ (takH (expV sv now) fr m now).e = 0) (s : St w [.sl p N 67 sv.tb.length (tgCells sv.tb)] w') : HdP w vt vs sv.tb m.l (hndH sv fr m now) (.tuple #[.agg (svArr sv.no sv.sec p), nilV, .int .i64 (takH (expV sv now) fr m now).e]) w' := by
  rw [(tak_ne h h1).2 h0]
  obtain ⟨kn, s⟩ := ((s.grp0 (S := fun _ => True) (fun _ => trivial)).perm (List.Perm.swap ..)).grp1 (S' := fun w9 => RdT w9 vt sv.tb → RdE w9 vs m.l → RdT w9 p sv.tb ∧ RdZ w9 nilV 139 ([] : List S2).length (seCells []) ∧ RwS [] w9) (fun w9 a _ _ _ => ⟨a, rd_nilS _, rwS_nil w9⟩)
  exact ⟨p, nilV, [], kn, rfl, rfl, s⟩
theorem hdp_0 {p u : Value} {K : List S2} (h : hbK sv fr m now) (h0 : (takH (expV sv now) fr m now).e = 0)
    (s : St w [.grp ks fun w9 => sends K = (takH (expV sv now) fr m now).l ∧ (RdT w9 vt sv.tb → RdE w9 vs m.l → RdT w9 p (takH (expV sv now) fr m now).s.tb ∧ RdZ w9 u 139 K.length (seCells K) ∧ RwS K w9)] w') :
    HdP w vt vs sv.tb m.l (hndH sv fr m now) (.tuple #[.agg (svArr (takH (expV sv now) fr m now).s.no (takH (expV sv now) fr m now).s.sec p), u, .int .i64 0]) w' := by
  rw [(tak_ne h (by rw [h0]; decide)).1 h0, ← h0]
  exact ⟨p, u, K, ks, rfl, (s.getG 0 rfl).1, s.weak fun w9 a => a.2⟩
end
/-! which of those that are sent is a push -/
def psh7 (x : S2) : Bool := decide (x.1.2.1.k = 7)
theorem ix7_y {K : List S2} {k : Nat} (hk : k < K.length) (h : psh7 (K.getD k zS2) = true) : decide (0 ≤ ((k : Nat) : Int)) = K.any psh7 := by
  rw [decide_eq_true (by omega), List.any_eq_true.2 ⟨_, s2_mem hk, h⟩]
theorem ix7_n {K : List S2} (h : ∀ i, i < K.length → psh7 (K.getD i zS2) = false) : decide ((0 : Int) ≤ -1) = K.any psh7 := by
  rw [decide_eq_false (by decide)]
  refine (List.any_eq_false.2 fun x hx => ?_).symm
  obtain ⟨i, hi, rfl⟩ := List.mem_iff_getElem.1 hx
  rw [s2D hi, h i hi]; decide
def IxP (K : List S2) : Asrt := fun v _ => ∃ r : Int, v = .int .i64 r ∧ decide (0 ≤ r) = K.any psh7
theorem sn_any {fr : Int} {p : Pk} {R : List Ot} (h3 : ∀ o ∈ R, o.k = 1 ∨ o.k = 2 ∨ o.k = 3) : (sndK fr p R).any (fun x => decide (x.2.1.k = 7)) = R.any (pshO fr) := by
  unfold sndK
  rw [List.any_flatMap]
  induction R with
  | nil => rfl
  | cons o R ih =>
    rw [List.any_cons, List.any_cons, ih fun o h => h3 o (List.mem_cons_of_mem _ h)]
    congr 1
    have hk := h3 o List.mem_cons_self
    unfold sndO pshO
    by_cases k1 : o.k = 1
    · rw [decide_eq_true k1, decide_eq_false (by omega : ¬ o.k = 3)]; rfl
    · by_cases k2 : o.k = 2
      · rw [decide_eq_false k1, decide_eq_true k2, decide_eq_false (by omega : ¬ o.k = 3)]
        cases decide ((fstE o.p).1 = 2) <;> rfl
      · rw [decide_eq_false k1, decide_eq_false k2, decide_eq_true (by omega : o.k = 3)]
        cases decide (o.y = 6) <;> cases decide (16 ≤ fr) <;> rfl
theorem ks_any {fr : Int} {t : List Tg} {p : Pk} {KS : List S2} (h : sends KS = sndK fr p (stepO t p)) : KS.any psh7 = (stepO t p).any (pshO fr) := by
  rw [← sn_any fun o ho => step_kind ho, ← h]
  unfold sends
  rw [List.any_map]; rfl
def towM (e : Ent) : Int := bif decide (e.1 = 2) then 16 + e.2.2 else -1
section
variable {fr : Int} {p : Pk} {o : Ot}
theorem so_t (h : decide (o.k = 1) = false) (h2 : decide (o.k = 2) = true) : sndO fr p o = [(towM (fstE o.p), dataM o.p, o.t)] ∧ pshO fr o = false := by
  unfold towM
  cases h3 : decide ((fstE o.p).1 = 2) with
  | true => exact so_2 h h2 h3
  | false => exact so_3 h h2 h3
end
section
variable {w w' : World} {sv : Sv} {fr : Int} {m : Mg} {K : List O2} {KS : List S2} {u uo vs : Value} {N : TypeId} {ks : List Nat}
theorem pck_y2 (hK : outs K = stepO sv.tb (pkOf m)) (h : sends KS = sndK fr (pkOf m) ((outs K).take K.length)) (h0 : decide (16 ≤ fr) = true) (h1 : decide ((fstE (pkOf m)).1 = 1) = true) (h2 : KS.any psh7 = false) : sends (KS ++ [((fr, cachG (fstI (pkOf m)) sv.no, zTg), nilV)]) = pckL sv fr m := by
  refine pck_y hK h h0 h1 ?_
  rw [← outs_len K, List.take_length, hK] at h ⊢
  rw [← ks_any h]; exact h2
theorem pck_n2 (hK : outs K = stepO sv.tb (pkOf m)) (h : sends KS = sndK fr (pkOf m) ((outs K).take K.length)) (h0 : (decide (16 ≤ fr) && (decide ((fstE (pkOf m)).1 = 1) && !KS.any psh7)) = false) : sends KS = pckL sv fr m := by
  refine pck_n hK h ?_
  rw [← outs_len K, List.take_length, hK] at h ⊢
  rw [← ks_any h]; exact h0
theorem sop_end (hKS : sends KS = pckL sv fr m) (hrs : ∀ w9, RwU K w9 → RwS KS w9) (s : St w [.sl u N 139 KS.length (seCells KS), .grp ks fun w9 => RdE w9 vs (pkOf m).1 → RdU w9 uo K] w') : SoP w vs m.l (pckL sv fr m) u w' := by
  obtain ⟨kn, s⟩ := s.grp1 (S' := fun w9 => RdE w9 vs m.l → RdZ w9 u 139 KS.length (seCells KS) ∧ RwS KS w9) (fun w9 h hs c => ⟨h, hrs w9 (hs c).2⟩)
  exact ⟨KS, kn, hKS, s⟩
theorem hnb {now : Int} (h : ¬ hbK sv fr m now) : hndB sv fr m now = false := by
  cases e : hndB sv fr m now
  · rfl
  · obtain ⟨a, b, c, d, e, f, _⟩ := hndB_iff.1 e
    exact absurd ⟨a, b, c, d, e, f⟩ h
end
/-! Hand and Give -/
section
variable {w w' : World} {vt vh : Value} {sv : Sv} {l : List Tg} {a b : Id} {ks : List Nat}
end
end Go.Proofs.YtobfeflheaobiaaDoor
