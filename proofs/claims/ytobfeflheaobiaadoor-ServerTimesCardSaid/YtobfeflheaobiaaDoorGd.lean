/- What is judged of messages about triggers; no Go in it. -/
import Derived.Test.YtobfeflheaobiaaDoorWr
set_option linter.unusedVariables false
set_option linter.unusedSimpArgs false
set_option linter.unusedSectionVars false
namespace Go.Proofs.YtobfeflheaobiaaDoor
open Go.RowKit
/-! ### which triggers come in: what is judged of a message, and the message that asks -/
def aboutM (m : Mg) : Bool := rightM m && (decide (m.k = 2) || (decide (m.k = 4) || decide (m.k = 6)))
def ncG (s : ByteArray) (m : Mg) : ByteArray := nonceM s m.i m.t.2.2.toNat
def askM (s : ByteArray) (m : Mg) : Mg := ⟨3, m.i, m.t, [], 0, ncG s m, ⟨#[]⟩⟩
def judK (s : ByteArray) (m : Mg) : Int := bif decide (m.t.1 = 1) then (bif decide (m.k = 2) && linksM m.i m.t.2.1 then 2 else 4) else bif decide (m.k = 2) then 1 else bif decide (m.o = ncG s m) then (bif decide (m.k = 4) then 2 else 3) else 4
def judA (s : ByteArray) (m : Mg) : Mg := bif !decide (m.t.1 = 1) && decide (m.k = 2) then askM s m else mZ
def gdE (s : ByteArray) (m : Mg) : Int := bif aboutM m then (bif decide (s.size ≤ 64) then 0 else 2) else 1
def gdK (s : ByteArray) (m : Mg) : Int := bif decide (gdE s m = 0) then judK s m else 0
def gdA (s : ByteArray) (m : Mg) : Mg := bif decide (gdE s m = 0) then judA s m else mZ
def trgT (m : Mg) (now : Int) : Tg := (m.i, m.t, min (now + m.n) 1099511627776)
def tgB (m : Mg) (now : Int) : Bool := aboutM m && (!decide (m.k = 6) && (decide (0 ≤ now) && decide (now ≤ 1099511627776)))
def tgE (m : Mg) (now : Int) : Int := bif tgB m now then 0 else 1
def tgT (m : Mg) (now : Int) : Tg := bif tgB m now then trgT m now else zTg
theorem about_iff {m : Mg} : aboutM m = true ↔ rightM m = true ∧ (m.k = 2 ∨ m.k = 4 ∨ m.k = 6) := by
  unfold aboutM
  rw [Bool.and_eq_true, Bool.or_eq_true, Bool.or_eq_true, decide_eq_true_eq, decide_eq_true_eq, decide_eq_true_eq]
/-- a message about a trigger: its target may be, it has no stack and no data -/
theorem about_t {m : Mg} (h : aboutM m = true) : isE m.t = true ∧ m.l = [] ∧ m.d = ⟨#[]⟩ ∧ (m.k = 2 → 0 ≤ m.n ∧ m.n ≤ 1099511627776 ∧ m.o = ⟨#[]⟩) ∧ (m.k = 4 → 0 ≤ m.n ∧ m.n ≤ 1099511627776 ∧ m.o.size = 16) ∧ (m.k = 6 → m.n = 0 ∧ m.o.size = 16) := by
  obtain ⟨hr, hk⟩ := about_iff.1 h
  obtain ⟨_, _, h2, h3, h4, h5, h6⟩ := right_parts hr
  rcases hk with e | e | e
  all_goals
    unfold c2 at h2; unfold c3 at h3; unfold c4 at h4; unfold c5 at h5; unfold c6 at h6
    rw [e] at h2 h3 h4 h5 h6
    simp [hasT, hasS, hasN, hasO, hasD] at h2 h3 h4 h5 h6
    simp [h2, h3, h4, h5, h6, e]
theorem right_about {k : Int} {i : Id} {t : Ent} {n : Int} {o : ByteArray} (ht : isE t = true) (h : (k = 2 ∧ 0 ≤ n ∧ n ≤ 1099511627776 ∧ o = ⟨#[]⟩) ∨ (k = 4 ∧ 0 ≤ n ∧ n ≤ 1099511627776 ∧ o.size = 16) ∨ (k = 6 ∧ n = 0 ∧ o.size = 16)) : aboutM ⟨k, i, t, [], n, o, ⟨#[]⟩⟩ = true := by
  refine about_iff.2 ⟨?_, ?_⟩
  · rcases h with ⟨rfl, h1, h2, h3⟩ | ⟨rfl, h1, h2, h3⟩ | ⟨rfl, h1, h3⟩
    all_goals
      unfold rightM c1 c2 c3 c4 c5 c6
      simp [isK, hasI, hasT, hasS, hasN, hasO, hasD, ht, h1, h3]
    all_goals assumption
  · rcases h with ⟨rfl, _⟩ | ⟨rfl, _⟩ | ⟨rfl, _⟩
    · exact .inl rfl
    · exact .inr (.inl rfl)
    · exact .inr (.inr rfl)
theorem host_t {t : Ent} (h : isE t = true) : ((t.2.2.toNat : Nat) : Int) = t.2.2 ∧ t.2.2.toNat < 16 := by
  rcases (isE_iff t).1 h with ⟨_, g⟩ | ⟨_, _, g1, g2⟩
  · rw [g]; exact ⟨rfl, by decide⟩
  · omega
theorem gd_ok {s : ByteArray} {m : Mg} (h : aboutM m = true) (hs : s.size ≤ 64) : gdE s m = 0 ∧ gdK s m = judK s m ∧ gdA s m = judA s m := by
  have e : gdE s m = 0 := by unfold gdE; rw [h, decide_eq_true hs]; rfl
  refine ⟨e, ?_, ?_⟩
  · unfold gdK; rw [e]; rfl
  · unfold gdA; rw [e]; rfl
theorem gd_no {s : ByteArray} {m : Mg} (h : aboutM m = false) : gdE s m = 1 ∧ gdK s m = 0 ∧ gdA s m = mZ := by
  have e : gdE s m = 1 := by unfold gdE; rw [h]; rfl
  refine ⟨e, ?_, ?_⟩
  · unfold gdK; rw [e]; rfl
  · unfold gdA; rw [e]; rfl
theorem gd_long {s : ByteArray} {m : Mg} (h : aboutM m = true) (hs : ¬ s.size ≤ 64) : gdE s m = 2 ∧ gdK s m = 0 ∧ gdA s m = mZ := by
  have e : gdE s m = 2 := by unfold gdE; rw [h, decide_eq_false hs]; rfl
  refine ⟨e, ?_, ?_⟩
  · unfold gdK; rw [e]; rfl
  · unfold gdA; rw [e]; rfl
end Go.Proofs.YtobfeflheaobiaaDoor

namespace Go.Proofs.YtobfeflheaobiaaDoor
open Go.RowKit
/-! ### what the walks want of package guard -/
theorem mArr_ti (m : Mg) (v : Value) : (mArr m v).extract 34 (34 + 32) = idArr m.t.2.1 := ext_listW (by
  rw [mArr_list, show (34 : Nat) = 33 + 1 from rfl, List.drop_succ_cons, show (33 : Nat) = 32 + 1 from rfl, ← List.drop_drop, List.drop_left' (idL32 _), eArr_list, List.cons_append, List.drop_succ_cons, List.drop_zero, List.append_assoc, List.take_left' (idL32 _)])
theorem mArr_th (m : Mg) (v : Value) : (mArr m v)[66]? = some (.int .i64 m.t.2.2) := by
  rw [← Array.getElem?_toList, mArr_list, show (66 : Nat) = 65 + 1 from rfl, List.getElem?_cons_succ, List.getElem?_append_right (by rw [idL32]; omega), idL32, List.getElem?_append_left (by rw [eL34]; omega)]
  have := eArr_host m.t
  rw [← Array.getElem?_toList] at this
  exact this
theorem id0_rep : List.replicate 32 (Value.int .u8 0) = (idArr 0#256).toList := by rw [idArr_zero]; rfl
section
variable {P : Program} {ρ : Operand → Value} {d : Option Tmp} {ty : TypeId} {pos : String} {af : Array Edge} {g : Option (Nat × Bool)} {y0 y1 y2 y3 y4 y5 y6 : Operand} {t : TypeId}
theorem ru_build_m024 {k : Int} {e : Ent} {n : Int} (S : Stt P t mZs) (h0 : ρ y0 = .int .i64 k) (h2 : ρ y2 = .agg (eArr e)) (h4 : ρ y4 = .int .i64 n) : RunsTo P ⟨d, .build t #[(0, y0), (2, y2), (4, y4)], ty, pos, af, g⟩ ρ (.agg (mArr ⟨k, 0#256, e, [], n, ⟨#[]⟩, ⟨#[]⟩⟩ nilV)) := by
  have := ru_build_st (P := P) (ρ := ρ) (d := d) (ty := ty) (pos := pos) (af := af) (g := g) (parts := #[(0, y0), (2, y2), (4, y4)]) S [(0, .int .i64 k), (2, .agg (eArr e)), (4, .int .i64 n)] (by simp [h0, h2, h4]) (fun j u hm => by
    simp only [List.mem_cons, Prod.mk.injEq, List.not_mem_nil, or_false] at hm
    rcases hm with ⟨rfl, rfl⟩ | ⟨rfl, rfl⟩ | ⟨rfl, rfl⟩
    · exact ⟨_, rfl, rfl⟩
    · exact ⟨_, rfl, by show (eArr _).size = _; rw [eArr_size]; rfl⟩
    · exact ⟨_, rfl, rfl⟩) (D := (mArr ⟨k, 0#256, e, [], n, ⟨#[]⟩, ⟨#[]⟩⟩ nilV).toList) (by
      show [Value.int .i64 k] ++ (List.replicate 32 (Value.int .u8 0) ++ ((eArr e).toList ++ ([Value.slice none 0 0] ++ ([Value.int .i64 n] ++ ([Value.string ⟨#[]⟩] ++ ([Value.string ⟨#[]⟩] ++ [])))))) = _
      rw [id0_rep]; rfl)
  exact this
theorem ru_build_m0125 {k : Int} {i : Id} {e : Ent} {o : ByteArray} (S : Stt P t mZs) (h0 : ρ y0 = .int .i64 k) (h1 : ρ y1 = .agg (idArr i)) (h2 : ρ y2 = .agg (eArr e)) (h5 : ρ y5 = .string o) : RunsTo P ⟨d, .build t #[(0, y0), (1, y1), (2, y2), (5, y5)], ty, pos, af, g⟩ ρ (.agg (mArr ⟨k, i, e, [], 0, o, ⟨#[]⟩⟩ nilV)) := by
  have := ru_build_st (P := P) (ρ := ρ) (d := d) (ty := ty) (pos := pos) (af := af) (g := g) (parts := #[(0, y0), (1, y1), (2, y2), (5, y5)]) S [(0, .int .i64 k), (1, .agg (idArr i)), (2, .agg (eArr e)), (5, .string o)] (by simp [h0, h1, h2, h5]) (fun j u hm => by
    simp only [List.mem_cons, Prod.mk.injEq, List.not_mem_nil, or_false] at hm
    rcases hm with ⟨rfl, rfl⟩ | ⟨rfl, rfl⟩ | ⟨rfl, rfl⟩ | ⟨rfl, rfl⟩
    · exact ⟨_, rfl, rfl⟩
    · exact ⟨_, rfl, by show (idArr _).size = _; rw [idArr_size]; rfl⟩
    · exact ⟨_, rfl, by show (eArr _).size = _; rw [eArr_size]; rfl⟩
    · exact ⟨_, rfl, rfl⟩) (D := (mArr ⟨k, i, e, [], 0, o, ⟨#[]⟩⟩ nilV).toList) (by
      show [Value.int .i64 k] ++ ((idArr i).toList ++ ((eArr e).toList ++ ([Value.slice none 0 0] ++ ([Value.int .i64 0] ++ ([Value.string o] ++ ([Value.string ⟨#[]⟩] ++ [])))))) = _
      rfl)
  exact this
theorem ru_build_m0346 {l : List Ent} {v : Value} (hv : v.cells.size = 1) (hc : v.cells.toList = [v]) {k : Int} {n : Int} {b : ByteArray} (S : Stt P t mZs) (h0 : ρ y0 = .int .i64 k) (h3 : ρ y3 = v) (h4 : ρ y4 = .int .i64 n) (h6 : ρ y6 = .string b) : RunsTo P ⟨d, .build t #[(0, y0), (3, y3), (4, y4), (6, y6)], ty, pos, af, g⟩ ρ (.agg (mArr ⟨k, 0#256, (0, 0#256, 0), l, n, ⟨#[]⟩, b⟩ v)) := by
  have := ru_build_st (P := P) (ρ := ρ) (d := d) (ty := ty) (pos := pos) (af := af) (g := g) (parts := #[(0, y0), (3, y3), (4, y4), (6, y6)]) S [(0, .int .i64 k), (3, v), (4, .int .i64 n), (6, .string b)] (by simp [h0, h3, h4, h6]) (fun j u hm => by
    simp only [List.mem_cons, Prod.mk.injEq, List.not_mem_nil, or_false] at hm
    rcases hm with ⟨rfl, rfl⟩ | ⟨rfl, rfl⟩ | ⟨rfl, rfl⟩ | ⟨rfl, rfl⟩
    · exact ⟨_, rfl, rfl⟩
    · exact ⟨_, rfl, hv⟩
    · exact ⟨_, rfl, rfl⟩
    · exact ⟨_, rfl, rfl⟩) (D := (mArr ⟨k, 0#256, (0, 0#256, 0), l, n, ⟨#[]⟩, b⟩ v).toList) (by
      show [Value.int .i64 k] ++ (List.replicate 32 (Value.int .u8 0) ++ ((Value.int .i64 0 :: (List.replicate 32 (Value.int .u8 0) ++ [Value.int .i64 0])) ++ (v.cells.toList ++ ([Value.int .i64 n] ++ ([Value.string ⟨#[]⟩] ++ ([Value.string b] ++ [])))))) = _
      rw [z34, id0_rep, hc]; rfl)
  exact this
theorem ru_build_m012 {k : Int} {i : Id} {e : Ent} (S : Stt P t mZs) (h0 : ρ y0 = .int .i64 k) (h1 : ρ y1 = .agg (idArr i)) (h2 : ρ y2 = .agg (eArr e)) : RunsTo P ⟨d, .build t #[(0, y0), (1, y1), (2, y2)], ty, pos, af, g⟩ ρ (.agg (mArr ⟨k, i, e, [], 0, ⟨#[]⟩, ⟨#[]⟩⟩ nilV)) := by
  have := ru_build_st (P := P) (ρ := ρ) (d := d) (ty := ty) (pos := pos) (af := af) (g := g) (parts := #[(0, y0), (1, y1), (2, y2)]) S [(0, .int .i64 k), (1, .agg (idArr i)), (2, .agg (eArr e))] (by simp [h0, h1, h2]) (fun j u hm => by
    simp only [List.mem_cons, Prod.mk.injEq, List.not_mem_nil, or_false] at hm
    rcases hm with ⟨rfl, rfl⟩ | ⟨rfl, rfl⟩ | ⟨rfl, rfl⟩
    · exact ⟨_, rfl, rfl⟩
    · exact ⟨_, rfl, by show (idArr _).size = _; rw [idArr_size]; rfl⟩
    · exact ⟨_, rfl, by show (eArr _).size = _; rw [eArr_size]; rfl⟩) (D := (mArr ⟨k, i, e, [], 0, ⟨#[]⟩, ⟨#[]⟩⟩ nilV).toList) (by
      show [Value.int .i64 k] ++ ((idArr i).toList ++ ((eArr e).toList ++ ([Value.slice none 0 0] ++ ([Value.int .i64 0] ++ ([Value.string ⟨#[]⟩] ++ ([Value.string ⟨#[]⟩] ++ [])))))) = _
      rfl)
  exact this
theorem ru_build_m014 {k : Int} {i : Id} {n : Int} (S : Stt P t mZs) (h0 : ρ y0 = .int .i64 k) (h1 : ρ y1 = .agg (idArr i)) (h4 : ρ y4 = .int .i64 n) : RunsTo P ⟨d, .build t #[(0, y0), (1, y1), (4, y4)], ty, pos, af, g⟩ ρ (.agg (mArr ⟨k, i, (0, 0#256, 0), [], n, ⟨#[]⟩, ⟨#[]⟩⟩ nilV)) := by
  have := ru_build_st (P := P) (ρ := ρ) (d := d) (ty := ty) (pos := pos) (af := af) (g := g) (parts := #[(0, y0), (1, y1), (4, y4)]) S [(0, .int .i64 k), (1, .agg (idArr i)), (4, .int .i64 n)] (by simp [h0, h1, h4]) (fun j u hm => by
    simp only [List.mem_cons, Prod.mk.injEq, List.not_mem_nil, or_false] at hm
    rcases hm with ⟨rfl, rfl⟩ | ⟨rfl, rfl⟩ | ⟨rfl, rfl⟩
    · exact ⟨_, rfl, rfl⟩
    · exact ⟨_, rfl, by show (idArr _).size = _; rw [idArr_size]; rfl⟩
    · exact ⟨_, rfl, rfl⟩) (D := (mArr ⟨k, i, (0, 0#256, 0), [], n, ⟨#[]⟩, ⟨#[]⟩⟩ nilV).toList) (by
      show [Value.int .i64 k] ++ ((idArr i).toList ++ ((Value.int .i64 0 :: (List.replicate 32 (Value.int .u8 0) ++ [Value.int .i64 0])) ++ ([Value.slice none 0 0] ++ ([Value.int .i64 n] ++ ([Value.string ⟨#[]⟩] ++ ([Value.string ⟨#[]⟩] ++ [])))))) = _
      rw [z34]; rfl)
  exact this
end
/-! what is judged, and the message that asks, as one -/
theorem mZ_flat : (mArr mZ nilV).toList = mZs.flatten := by
  have : mArr mZ nilV = mZs.flatten.toArray := mArr_zero
  rw [this]
section
variable {P : Program} {ρ : Operand → Value} {d : Option Tmp} {ty : TypeId} {pos : String} {af : Array Edge} {g : Option (Nat × Bool)} {x y : Operand} {t : TypeId}
end
/-! what the package answers -/
def GdP (w : World) (vs : Value) (m a : Mg) (k e : Int) : Asrt := fun v w' => ∃ u ks, v = .tuple #[.int .i64 k, .agg (mArr a u), .int .i64 e] ∧ St w [.grp ks fun w9 => RdE w9 vs m.l → RdE w9 u a.l] w'
theorem judA_l (s : ByteArray) (m : Mg) : (judA s m).l = [] ∧ (gdA s m).l = [] := by
  have h : (judA s m).l = [] := by unfold judA; cases !decide (m.t.1 = 1) && decide (m.k = 2) <;> rfl
  refine ⟨h, ?_⟩
  unfold gdA; cases decide (gdE s m = 0)
  · rfl
  · exact h
theorem re_nil9 (w : World) {v : Value} {l : List Ent} (h : l = []) (hv : v = nilV) : RdE w v l := by subst h; subst hv; exact re_nil w
/-! the laws' facts -/
/-- a host is asked -/
def mI5 : Mg := ⟨2, 0#256, (2, 0#256, 3), [], 5, ⟨#[]⟩, ⟨#[]⟩⟩
theorem tg_n {m : Mg} {now : Int} (h : tgB m now = false) : tgE m now = 1 ∧ tgT m now = zTg := by unfold tgE tgT; rw [h]; exact ⟨rfl, rfl⟩
theorem tg_y {m : Mg} {now : Int} (h : tgB m now = true) : tgE m now = 0 ∧ tgT m now = trgT m now := by unfold tgE tgT; rw [h]; exact ⟨rfl, rfl⟩
theorem tb_0 {m : Mg} (now : Int) (h : aboutM m = false) : tgB m now = false := by unfold tgB; rw [h]; rfl
theorem tb_2 {m : Mg} {now : Int} (h : decide (now < 0) = true) : tgB m now = false := by unfold tgB; rw [decide_eq_false (show ¬ 0 ≤ now by have := of_decide_eq_true h; omega)]; simp
theorem tb_3 {m : Mg} {now : Int} (h : decide (1099511627776 < now) = true) : tgB m now = false := by unfold tgB; rw [decide_eq_false (show ¬ now ≤ 1099511627776 by have := of_decide_eq_true h; omega)]; simp
theorem tb_y {m : Mg} {now : Int} (h : aboutM m = true) (h1 : decide (m.k = 6) = false) (h2 : decide (now < 0) = false) (h3 : decide (1099511627776 < now) = false) : tgB m now = true := by
  unfold tgB; rw [h, h1, decide_eq_true (show 0 ≤ now by have := of_decide_eq_false h2; omega), decide_eq_true (show now ≤ 1099511627776 by have := of_decide_eq_false h3; omega)]; rfl
theorem about_n {m : Mg} (h : aboutM m = true) (h1 : decide (m.k = 6) = false) : 0 ≤ m.n ∧ m.n ≤ 1099511627776 := by
  have ht := about_t h
  rcases (about_iff.1 h).2 with e | e | e
  · exact ⟨(ht.2.2.2.1 e).1, (ht.2.2.2.1 e).2.1⟩
  · exact ⟨(ht.2.2.2.2.1 e).1, (ht.2.2.2.2.1 e).2.1⟩
  · exact absurd e (of_decide_eq_false h1)
theorem hm_1000 (m : Int) : ∃ h : Nat, (m.tmod 1000 + 1000).tmod 1000 = (h : Int) ∧ h < 1000 := by
  have h1 := tm_N m (show (1 : Int) ≤ 1000 by decide)
  have h2 := Int.tmod_nonneg (b := 1000) (a := m.tmod 1000 + 1000) (by omega)
  have h3 := Int.tmod_lt_of_pos (m.tmod 1000 + 1000) (b := 1000) (by decide)
  exact ⟨((m.tmod 1000 + 1000).tmod 1000).toNat, by omega, by omega⟩
end Go.Proofs.YtobfeflheaobiaaDoor

namespace Go.Proofs.YtobfeflheaobiaaDoor
/-! the law with a shared piece is c_regU0 (EngC) -/
end Go.Proofs.YtobfeflheaobiaaDoor

namespace Go.Proofs.YtobfeflheaobiaaDoor
open Go.RowKit
/-! ### package guard's own: what is judged, by kinds -/
theorem jd_ask {s : ByteArray} {m : Mg} (hk : m.k = 2) (ht : m.t.1 = 2) : judK s m = 1 ∧ judA s m = askM s m := by
  have h1 : decide (m.t.1 = 1) = false := by rw [ht]; rfl
  have h2 : decide (m.k = 2) = true := by rw [hk]; rfl
  refine ⟨?_, ?_⟩
  · unfold judK; rw [h1, h2]; rfl
  · unfold judA; rw [h1, h2]; rfl
theorem jd_ins {s : ByteArray} {m : Mg} (hk : m.k = 2) (he : isE m.t = true) (ht : ¬ m.t.1 = 2) : judK s m = (bif linksM m.i m.t.2.1 then 2 else 4) ∧ judA s m = mZ := by
  have h1 : decide (m.t.1 = 1) = true := decide_eq_true (by rcases (isE_iff m.t).1 he with h | h <;> omega)
  have h2 : decide (m.k = 2) = true := by rw [hk]; rfl
  refine ⟨?_, ?_⟩
  · unfold judK; rw [h1, h2, Bool.true_and]; rfl
  · unfold judA; rw [h1]; rfl
theorem jd_ech {s : ByteArray} {m : Mg} {x : Int} (hk : (m.k = 4 ∧ x = 2) ∨ (m.k = 6 ∧ x = 3)) (he : isE m.t = true) : judK s m = (bif decide (m.t.1 = 2) && decide (m.o = ncG s m) then x else 4) ∧ judA s m = mZ := by
  have h2 : decide (m.k = 2) = false := decide_eq_false (by omega)
  refine ⟨?_, ?_⟩
  · unfold judK
    rw [h2, Bool.false_and]
    have h9 : decide (m.t.1 = 1) = !decide (m.t.1 = 2) := by
      rcases (isE_iff m.t).1 he with h | h <;> rw [h.1] <;> rfl
    rw [h9]
    cases decide (m.t.1 = 2) with
    | false => rfl
    | true =>
      rw [Bool.true_and]
      rcases hk with ⟨h, rfl⟩ | ⟨h, rfl⟩ <;> rw [h] <;> cases decide (m.o = ncG s m) <;> rfl
  · unfold judA
    rw [h2, Bool.and_false]; rfl
def isJ (k : Int) : Bool := decide (k = 2) || (decide (k = 4) || decide (k = 6))
theorem about_j {m : Mg} : aboutM m = (rightM m && isJ m.k) := rfl
theorem isJ_iff {k : Int} : isJ k = true ↔ k = 2 ∨ k = 4 ∨ k = 6 := by
  unfold isJ
  rw [Bool.or_eq_true, Bool.or_eq_true, decide_eq_true_eq, decide_eq_true_eq, decide_eq_true_eq]
theorem tb_24 {m : Mg} (now : Int) (h2 : decide (m.k = 2) = false) (h4 : decide (m.k = 4) = false) : tgB m now = false := by
  unfold tgB
  cases ha : aboutM m with
  | false => rfl
  | true =>
    have h6 : m.k = 6 := by
      have := of_decide_eq_false h2
      have := of_decide_eq_false h4
      rcases (about_iff.1 ha).2 with e | e | e <;> omega
    rw [decide_eq_true h6]; rfl
theorem gdP_nil {w w' : World} {vs : Value} {m a : Mg} {k e : Int} (hl : a.l = []) (hE : Ext w w') : GdP w vs m a k e (.tuple #[.int .i64 k, .agg (mArr a nilV), .int .i64 e]) w' :=
  ⟨nilV, [], rfl, ((St.start w).more hE).grp0 fun w9 _ => by rw [hl]; exact re_nil w9⟩
/-! results of two: a value, a row -/
section
variable {P : Program} {a : Act} {w w0 : World} {N : Nat} {L : List (Nat × Value)} {B : List Own} {fn : Func} {t : TypeId}
theorem e_tmp_rowG {p q : Tmp} {T : Asrt} {b n : Nat} {C : Array Value} {u : TypeId} {V : Value} (i : Nat) (hres : fn.results = #[.tmp q, .cell p t]) (h : Sl N a L) (s : St w0 B w) (hr : Row P t n) (hq : lk L q = some V) (hp : lk L p = some (.pointer (some ⟨b, 0, none⟩))) (hi : B[i]? = some (.blk b (.cells C u))) (hn : C.size = n)
    (hT : T (.tuple #[V, .agg C]) w) : bodyPost P fn (Ret w0 T) .ret a w := by
  refine ⟨h.defers, .tuple #[V, .agg C], ?_, _, rfl, hT, s.ext⟩
  have hp' : a.tmps[p]?.getD undef = .pointer (some ⟨b, 0, none⟩) := by simpa using h.holds p _ hp
  have hq' : a.tmps[q]?.getD undef = V := by simpa using h.holds q _ hq
  simp [results, hres, hp', hq', asAddr, run_load_row hr w b C u (0, 0) (s.get i hi) hn]
end
/-! closures that hold two cells -/
def tup0 (v : Value) : Value := match v with | .tuple a => a.getD 0 undef | _ => undef
def capk : Value → Nat → Nat
  | .func _ _ caps, j => pbk (caps.getD j undef)
  | _, _ => 0
def mbk : Value → Nat
  | .map (some b) => b
  | _ => 0
def Cl2 (f : FuncId) (u v V : Value) (w : World) : Prop := ∃ a b, V = .func (.func f) #[] #[.pointer (some ⟨a, 0, none⟩), .pointer (some ⟨b, 0, none⟩)] ∧ Tab w a #[u] ∧ Tab w b #[v]
theorem cl2_own {w0 w : World} {f : FuncId} {a b : Nat} {u v V : Value} {t t' : TypeId} {B : List Own} (s : St w0 (.blk a (.cells #[u] t) :: .blk b (.cells #[v] t') :: B) w) (hV : V = .func (.func f) #[] #[.pointer (some ⟨a, 0, none⟩), .pointer (some ⟨b, 0, none⟩)]) :
    St w0 (.grp [capk V 0, capk V 1] (Cl2 f u v V) :: B) w := by
  subst hV
  exact (St.group (A := [.blk a (.cells #[u] t), .blk b (.cells #[v] t')]) (B := B) s).weak fun w9 h9 =>
    ⟨a, b, rfl, ⟨t, (0, 0), h9 (.blk a (.cells #[u] t)) (by simp)⟩, ⟨t', (0, 0), h9 (.blk b (.cells #[v] t')) (by simp)⟩⟩
/-! a map to functions, whatever the order of its entries -/
def Ents (es : Array MapEntry) (g : Int → Option Value) : Prop :=
  (∀ e ∈ es.toList, ∃ n : Int, e.key = .int .i64 n) ∧ ∀ k : Int, (∀ V, g k = some V → ∃ j, Instr.findNow (.int .i64) (.int .i64 k) es.toList 0 = some (some (j, V))) ∧ (g k = none → Instr.findNow (.int .i64) (.int .i64 k) es.toList 0 = some none)
theorem find_app (k n : Int) (V : Value) (c : Nat) : ∀ (l : List MapEntry) (i : Nat), (∀ e ∈ l, ∃ n : Int, e.key = .int .i64 n) →
    Instr.findNow (.int .i64) (.int .i64 k) (l ++ [{ key := .int .i64 n, val := V, born := c }]) i = (match Instr.findNow (.int .i64) (.int .i64 k) l i with | some none => if k = n then some (some (i + l.length, V)) else some none | r => r)
  | [], i, _ => by rw [List.nil_append, find_cons]; rfl
  | e :: l, i, h => by
    obtain ⟨m, hm⟩ := h e List.mem_cons_self
    obtain ⟨ek, ev, eb⟩ := e
    simp only at hm
    subst hm
    rw [List.cons_append, find_cons, find_cons, find_app k n V c l (i + 1) fun x hx => h x (List.mem_cons_of_mem _ hx)]
    by_cases hk : k = m
    · rw [if_pos hk, if_pos hk]
    · rw [if_neg hk, if_neg hk, List.length_cons, show i + 1 + l.length = i + (l.length + 1) by omega]
theorem ents_nil : Ents #[] fun _ => none := ⟨by simp, fun k => ⟨fun V h => (nomatch h), fun _ => rfl⟩⟩
theorem ents_push {es : Array MapEntry} {g g' : Int → Option Value} {n : Int} {V : Value} (c : Nat) (h : Ents es g) (hn : g n = none) (hg : ∀ k, g' k = if k = n then some V else g k) : Ents (es.push { key := .int .i64 n, val := V, born := c }) g' := by
  refine ⟨fun e he => ?_, fun k => ?_⟩
  · rw [Array.toList_push] at he
    rcases List.mem_append.1 he with he | he
    · exact h.1 e he
    · rw [List.mem_singleton.1 he]; exact ⟨n, rfl⟩
  · rw [Array.toList_push, find_app k n V c es.toList 0 h.1, hg k]
    obtain ⟨h1, h2⟩ := h.2 k
    by_cases hk : k = n
    · subst hk
      rw [if_pos rfl, h2 hn]
      refine ⟨fun U hU => ?_, fun h9 => by cases h9⟩
      cases hU
      exact ⟨0 + es.toList.length, by simp⟩
    · rw [if_neg hk]
      refine ⟨fun U hU => ?_, fun h9 => ?_⟩
      · obtain ⟨j, hj⟩ := h1 U hU
        exact ⟨j, by rw [hj]⟩
      · rw [h2 h9]; simp [hk]
def MapG (mb : Nat) (g : Int → Option Value) (w : World) : Prop := ∃ es c, w.heap[mb]? = some (.map es c) ∧ Ents es g
/-- which entries are there -/
def gM (b2 b4 b6 : Bool) (f2 f4 f6 : Value) (k : Int) : Option Value := if k = 2 then (bif b2 then some f2 else none) else if k = 4 then (bif b4 then some f4 else none) else if k = 6 then (bif b6 then some f6 else none) else none
def ShM (l0 b2 b4 b6 : Bool) (v0 f2 f4 f6 : Value) : Own := .grp (bif l0 then [mbk v0] else []) (fun w9 => l0 = true → MapG (mbk v0) (gM b2 b4 b6 f2 f4 f6) w9)
theorem St.unblk {w0 w : World} {b : Nat} {S : World → Prop} {o : Obj} {B : List Own} (s : St w0 (.grp [b] S :: B) w) (h : w.heap[b]? = some o) : St w0 (.blk b o :: B) w := by
  have hpw := List.pairwise_cons.1 s.nd
  refine ⟨s.ext, fun p hp => ?_, fun p hp k hk => ?_, List.pairwise_cons.2 ⟨fun q hq k hk => ?_, hpw.2⟩⟩
  · rcases List.mem_cons.1 hp with rfl | hp
    · exact h
    · exact s.has p (List.mem_cons_of_mem _ hp)
  · rcases List.mem_cons.1 hp with rfl | hp
    · rw [Own.at_blk] at hk; subst hk
      exact s.own _ List.mem_cons_self k (by simp [Own.at, Own.ks])
    · exact s.own p (List.mem_cons_of_mem _ hp) k hk
  · rw [Own.at_blk] at hk; subst hk
    exact hpw.1 q hq k (by simp [Own.at, Own.ks])
theorem St.reblk {w0 w : World} {b : Nat} {S : World → Prop} {o : Obj} {B : List Own} (s : St w0 (.blk b o :: B) w) (h : ∀ w9 : World, w9.heap[b]? = some o → S w9) : St w0 (.grp [b] S :: B) w :=
  (St.group (A := [.blk b o]) (B := B) s).weak fun w9 h9 => h w9 (h9 (.blk b o) (by simp))
section
variable {P : Program} {ops : Array Oper} {Q : Act → World → Prop} {l : List Oper} {a : Act} {w w0 : World} {N : Nat} {L : List (Nat × Value)} {Df : List Deferred} {B : List Own} {d : Tmp} {ty : TypeId} {pos : String} {af : Array Edge} {x y z : Operand} {t : TypeId}
theorem s_makeMapG {b2 b4 b6 : Bool} {v0 f2 f4 f6 : Value} (h : Sl N a L Df) (s : St w0 (ShM false b2 b4 b6 v0 f2 f4 f6 :: B) w) (hd : Nat.blt d N = true) (k : ∀ a' w' V, V = .map (some (mbk V)) → Sl N a' ((d, V) :: L) Df → St w0 (ShM true false false false V f2 f4 f6 :: B) w' → Lst P ops Q l a' w') :
    Lst P ops Q (⟨some d, .makeMap t none, ty, pos, af, none⟩ :: l) a w :=
  s_makeMap h s hd fun a' w' b h' s' => k a' w' _ rfl h' <|
      have s2 : St w0 (.grp [b] (fun w9 => true = true → MapG b (gM false false false f2 f4 f6) w9) :: .grp [] (fun w9 => false = true → MapG (mbk v0) (gM b2 b4 b6 f2 f4 f6) w9) :: B) w' :=
        St.reblk s' fun w9 h9 _ => ⟨#[], 0, h9, ents_nil.1, fun k9 => by
          have e : gM false false false f2 f4 f6 k9 = none := by unfold gM; repeat' split <;> try rfl
          rw [e]; exact ents_nil.2 k9⟩
      (s2.merge (S := fun w9 => true = true → MapG b (gM false false false f2 f4 f6) w9) fun w9 h1 _ => h1)
theorem s_insertG {kt et : TypeId} {b2 b4 b6 c2 c4 c6 : Bool} {v0 f2 f4 f6 V : Value} (n : Int) (h : Sl N a L Df) (s : St w0 (ShM true b2 b4 b6 v0 f2 f4 f6 :: B) w) (ht : P.underlying t = some (.map kt et)) (hk : P.underlying kt = some (.int .i64))
    (hx : evo L x = some (.map (some (mbk v0)))) (hy : evo L y = some (.int .i64 n)) (hz : evo L z = some V) (hn : gM b2 b4 b6 f2 f4 f6 n = none) (hg : ∀ k, gM c2 c4 c6 f2 f4 f6 k = if k = n then some V else gM b2 b4 b6 f2 f4 f6 k)
    (k : ∀ w', St w0 (ShM true c2 c4 c6 v0 f2 f4 f6 :: B) w' → Lst P ops Q l a w') : Lst P ops Q (⟨none, .insert t x y z, ty, pos, af, none⟩ :: l) a w := by
  obtain ⟨es, c, hh, he⟩ := s.getG 0 rfl rfl
  have s1 : St w0 (.blk (mbk v0) (.map es c) :: B) w := St.unblk (S := fun w9 => true = true → MapG (mbk v0) (gM b2 b4 b6 f2 f4 f6) w9) s hh
  refine s_insert (K := .int .i64 n) 0 h s1 ht hk rfl hx hy hz rfl ((he.2 n).2 hn) fun w' s' => k w' ?_
  exact St.reblk s' fun w9 h9 _ => ⟨_, _, h9, ents_push c he hn hg⟩
theorem s_lookG {kt et : TypeId} {mb : Nat} {g : Int → Option Value} {K : Int} {Z : Value} (h : Sl N a L Df) (hM : MapG mb g w) (ht : P.underlying t = some (.map kt et)) (hk : P.underlying kt = some (.int .i64)) (hZ : (P.info? et).bind (·.zero) = some Z)
    (hx : evo L x = some (.map (some mb))) (hy : evo L y = some (.int .i64 K)) (hd : Nat.blt d N = true)
    (k : ∀ a', Sl N a' ((d, .tuple #[(g K).getD Z, .bool (g K).isSome]) :: L) Df → Lst P ops Q l a' w) : Lst P ops Q (⟨some d, .lookup t x y true, ty, pos, af, none⟩ :: l) a w := by
  obtain ⟨es, c, hb, he⟩ := hM
  have hf : (∃ j, Instr.findNow (.int .i64) (.int .i64 K) es.toList 0 = some (some (j, (g K).getD Z)) ∧ (g K).isSome = true) ∨ (Instr.findNow (.int .i64) (.int .i64 K) es.toList 0 = some none ∧ (g K).getD Z = Z ∧ (g K).isSome = false) := by
    cases hg : g K with
    | some V =>
      obtain ⟨j, hj⟩ := (he.2 K).1 V hg
      exact .inl ⟨j, hj, rfl⟩
    | none => exact .inr ⟨(he.2 K).2 hg, rfl, rfl⟩
  generalize (g K).getD Z = V at hf k
  generalize (g K).isSome = ok at hf k
  have hkd : MapKept.IsKey (.int .i64) (.int .i64 K) := rfl
  have hzr : (zeroValue et).run P w = .ok Z w := by
    cases hi9 : P.info? et with
    | none => simp [hi9] at hZ
    | some info => simp [hi9] at hZ; simp [zeroValue, typeInfo, hi9, hZ, Result.andThen]
  have hrun : (Instr.lookup t (.map (some mb)) (.int .i64 K) true).run P w = .ok (.tuple #[V, .bool ok]) w := by
    rcases hf with ⟨j, hf, rfl⟩ | ⟨hf, rfl, rfl⟩
    · simp [Instr.lookup, run_underlying ht, MapKept.run_getObj_map hb, MapKept.run_checkKey hk hkd, MapKept.run_findKey hk hf, Result.andThen]
    · simp [Instr.lookup, run_underlying ht, MapKept.run_getObj_map hb, MapKept.run_checkKey hk hkd, MapKept.run_findKey hk hf, hzr, Result.andThen]
  refine s_does h (R := fun v w' => v = .tuple #[V, .bool ok] ∧ w' = w) ?_ hd fun a' w' v ⟨hv, hw⟩ h' => by subst hv; subst hw; exact k _ h'
  simp [Does, execOp, h.ev hx, h.ev hy, hrun, Result.andThen]
end
theorem gM_2 (b4 b6 : Bool) (f2 f4 f6 : Value) : ∀ k : Int, gM true b4 b6 f2 f4 f6 k = if k = 2 then some f2 else gM false b4 b6 f2 f4 f6 k := fun k => by
  unfold gM
  by_cases h : k = 2
  · rw [if_pos h, if_pos h]; rfl
  · rw [if_neg h, if_neg h, if_neg h]
theorem gM_4 (b2 b6 : Bool) (f2 f4 f6 : Value) : ∀ k : Int, gM b2 true b6 f2 f4 f6 k = if k = 4 then some f4 else gM b2 false b6 f2 f4 f6 k := fun k => by
  unfold gM
  by_cases h : k = 4
  · subst h; rfl
  · rw [if_neg h, if_neg h, if_neg h]
theorem gM_6 (b2 b4 : Bool) (f2 f4 f6 : Value) : ∀ k : Int, gM b2 b4 true f2 f4 f6 k = if k = 6 then some f6 else gM b2 b4 false f2 f4 f6 k := fun k => by
  unfold gM
  by_cases h : k = 6
  · subst h; rfl
  · rw [if_neg h, if_neg h, if_neg h]
theorem gM_no {f2 f4 f6 : Value} (k : Int) (h : isJ k = false) : gM true true true f2 f4 f6 k = none := by
  have h9 : ¬ (k = 2 ∨ k = 4 ∨ k = 6) := fun h8 => by rw [isJ_iff.2 h8] at h; cases h
  unfold gM
  rw [if_neg (by omega), if_neg (by omega), if_neg (by omega)]
theorem no_of {cls : List (List Nat)} {lst : Nat → Bool} (hlz : ∀ k, lst k = true → ∀ j ∈ cls.getD k [], lst j = true) (i k : Nat) (hlo : lst i = false) (hm : (cls.getD k []).contains i = true) : lst k = false := by
  cases hb : lst k with
  | false => rfl
  | true => have := hlz k hb i (List.contains_iff_mem.1 hm); rw [hlo] at this; cases this
/-- a function that judges messages of a kind -/
def ClS (P : Program) (w9 : World) (V : Value) (sx : ByteArray) (k : Int) : Prop := ∃ (f : FuncId) (caps : List Value), V = .func (.func f) #[] caps.toArray ∧ Fnc P f ∧ ∀ (m : Mg) (vs : Value), m.k = k → aboutM m = true → sx.size ≤ 64 → RdE w9 vs m.l → Tab w9 0 (wF hTab 8) → Tab w9 1 (wF kTab 64) →
  Calls P f ([Value.agg (mArr m vs)] ++ caps).toArray w9 (Ret w9 (is (.tuple #[.int .i64 (judK sx m), .agg (mArr (judA sx m) nilV)])))
def JdS (P : Program) (w9 : World) (mb : Nat) (g : Int → Option Value) (sx : ByteArray) : Prop := MapG mb g w9 ∧ (∀ k, isJ k = false → g k = none) ∧ ∀ k, isJ k = true → ∃ V, g k = some V ∧ ClS P w9 V sx k
def JdP (P : Program) (sx : ByteArray) (w : World) : Asrt := fun v w' => ∃ mb ks g, v = .map (some mb) ∧ St w [.grp ks (fun w9 => JdS P w9 mb g sx)] w'
theorem js_some {P : Program} {w9 : World} {mb : Nat} {g : Int → Option Value} {sx : ByteArray} (h : JdS P w9 mb g sx) (k : Int) : (g k).isSome = isJ k := by
  cases hb : isJ k with
  | false => rw [h.2.1 k hb]; rfl
  | true => obtain ⟨V, hV, _⟩ := h.2.2 k hb; rw [hV]; rfl
theorem js_get {P : Program} {w9 : World} {mb : Nat} {g : Int → Option Value} {sx : ByteArray} {Z : Value} {k : Int} (h : JdS P w9 mb g sx) (hk : isJ k = true) : ClS P w9 ((g k).getD Z) sx k := by
  obtain ⟨V, hV, hc⟩ := h.2.2 k hk
  rw [hV]; exact hc
end Go.Proofs.YtobfeflheaobiaaDoor
