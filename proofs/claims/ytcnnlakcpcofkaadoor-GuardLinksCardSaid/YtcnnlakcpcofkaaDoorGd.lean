/- What is judged of messages about triggers; no Go in it. -/
import Derived.Test.YtcnnlakcpcofkaaDoorWr
set_option linter.unusedVariables false
set_option linter.unusedSimpArgs false
set_option linter.unusedSectionVars false
namespace Go.Proofs.YtcnnlakcpcofkaaDoor
open Go.RowKit
/-! ### which triggers come in: what is judged of a message, and the message that asks -/
def aboutM (m : Mg) : Bool := rightM m && (decide (m.k = 2) || (decide (m.k = 4) || decide (m.k = 6)))
def ncG (s : ByteArray) (m : Mg) : ByteArray := nonceM s m.i m.t.2.2.toNat
def askM (s : ByteArray) (m : Mg) : Mg := ⟨3, m.i, m.t, [], 0, ncG s m, ⟨#[]⟩⟩
def judK (s : ByteArray) (m : Mg) : Int := bif decide (m.t.1 = 1) then (bif decide (m.k = 2) && linksM m.i m.t.2.1 then 2 else 4) else bif decide (m.k = 2) then 1 else bif decide (m.o = ncG s m) then (bif decide (m.k = 4) then 2 else 3) else 4
def judA (s : ByteArray) (m : Mg) : Mg := bif !decide (m.t.1 = 1) && decide (m.k = 2) then askM s m else mZ
def gdE (s : ByteArray) (m : Mg) : Int := bif aboutM m then (bif decide (s.size ≤ 64) then 0 else 2) else 1
def gdK (s : ByteArray) (m : Mg) : Int := bif decide (gdE s m = 0) then judK s m else 0
def gdA (s : ByteArray) (m : Mg) : Mg := bif decide (gdE s m = 0) then judA s m else mZ
def trgT (m : Mg) (now : Int) : Tg := (m.i, m.t, min (now + m.n) 1099511627776)
def tgB (m : Mg) (now : Int) : Bool := aboutM m && (!decide (m.k = 6) && (decide (0 ≤ now) && decide (now ≤ 1099511627776)))
def tgE (m : Mg) (now : Int) : Int := bif tgB m now then 0 else 1
def tgT (m : Mg) (now : Int) : Tg := bif tgB m now then trgT m now else zTg
theorem about_iff {m : Mg} : aboutM m = true ↔ rightM m = true ∧ (m.k = 2 ∨ m.k = 4 ∨ m.k = 6) := by
  unfold aboutM
  rw [Bool.and_eq_true, Bool.or_eq_true, Bool.or_eq_true, decide_eq_true_eq, decide_eq_true_eq, decide_eq_true_eq]
/-- a message about a trigger: its target may be, it has no stack and no data -/
theorem about_t {m : Mg} (h : aboutM m = true) : isE m.t = true ∧ m.l = [] ∧ m.d = ⟨#[]⟩ ∧ (m.k = 2 → 0 ≤ m.n ∧ m.n ≤ 1099511627776 ∧ m.o = ⟨#[]⟩) ∧ (m.k = 4 → 0 ≤ m.n ∧ m.n ≤ 1099511627776 ∧ m.o.size = 16) ∧ (m.k = 6 → m.n = 0 ∧ m.o.size = 16) := by
  obtain ⟨hr, hk⟩ := about_iff.1 h
  obtain ⟨_, _, h2, h3, h4, h5, h6⟩ := right_parts hr
  rcases hk with e | e | e
  all_goals
    unfold c2 at h2; unfold c3 at h3; unfold c4 at h4; unfold c5 at h5; unfold c6 at h6
    rw [e] at h2 h3 h4 h5 h6
    simp [hasT, hasS, hasN, hasO, hasD] at h2 h3 h4 h5 h6
    simp [h2, h3, h4, h5, h6, e]
theorem right_about {k : Int} {i : Id} {t : Ent} {n : Int} {o : ByteArray} (ht : isE t = true) (h : (k = 2 ∧ 0 ≤ n ∧ n ≤ 1099511627776 ∧ o = ⟨#[]⟩) ∨ (k = 4 ∧ 0 ≤ n ∧ n ≤ 1099511627776 ∧ o.size = 16) ∨ (k = 6 ∧ n = 0 ∧ o.size = 16)) : aboutM ⟨k, i, t, [], n, o, ⟨#[]⟩⟩ = true := by
  refine about_iff.2 ⟨?_, ?_⟩
  · rcases h with ⟨rfl, h1, h2, h3⟩ | ⟨rfl, h1, h2, h3⟩ | ⟨rfl, h1, h3⟩
    all_goals
      unfold rightM c1 c2 c3 c4 c5 c6
      simp [isK, hasI, hasT, hasS, hasN, hasO, hasD, ht, h1, h3]
    all_goals assumption
  · rcases h with ⟨rfl, _⟩ | ⟨rfl, _⟩ | ⟨rfl, _⟩
    · exact .inl rfl
    · exact .inr (.inl rfl)
    · exact .inr (.inr rfl)
theorem kStr_len (k : Key) : (kStr k).size = 16 := by first | exact kStr_size k | simp [kStr]
theorem nc_size (s : ByteArray) (m : Mg) : (ncG s m).size = 16 := kStr_len _
theorem host_t {t : Ent} (h : isE t = true) : ((t.2.2.toNat : Nat) : Int) = t.2.2 ∧ t.2.2.toNat < 16 := by
  rcases (isE_iff t).1 h with ⟨_, g⟩ | ⟨_, _, g1, g2⟩
  · rw [g]; exact ⟨rfl, by decide⟩
  · omega
theorem gd_ok {s : ByteArray} {m : Mg} (h : aboutM m = true) (hs : s.size ≤ 64) : gdE s m = 0 ∧ gdK s m = judK s m ∧ gdA s m = judA s m := by
  have e : gdE s m = 0 := by unfold gdE; rw [h, decide_eq_true hs]; rfl
  refine ⟨e, ?_, ?_⟩
  · unfold gdK; rw [e]; rfl
  · unfold gdA; rw [e]; rfl
theorem gd_no {s : ByteArray} {m : Mg} (h : aboutM m = false) : gdE s m = 1 ∧ gdK s m = 0 ∧ gdA s m = mZ := by
  have e : gdE s m = 1 := by unfold gdE; rw [h]; rfl
  refine ⟨e, ?_, ?_⟩
  · unfold gdK; rw [e]; rfl
  · unfold gdA; rw [e]; rfl
theorem gd_long {s : ByteArray} {m : Mg} (h : aboutM m = true) (hs : ¬ s.size ≤ 64) : gdE s m = 2 ∧ gdK s m = 0 ∧ gdA s m = mZ := by
  have e : gdE s m = 2 := by unfold gdE; rw [h, decide_eq_false hs]; rfl
  refine ⟨e, ?_, ?_⟩
  · unfold gdK; rw [e]; rfl
  · unfold gdA; rw [e]; rfl
end Go.Proofs.YtcnnlakcpcofkaaDoor

namespace Go.Proofs.YtcnnlakcpcofkaaDoor
open Go.RowKit
/-! ### what the walks want of package guard -/
theorem mArr_ti (m : Mg) (v : Value) : (mArr m v).extract 34 (34 + 32) = idArr m.t.2.1 := ext_listW (by
  rw [mArr_list, show (34 : Nat) = 33 + 1 from rfl, List.drop_succ_cons, show (33 : Nat) = 32 + 1 from rfl, ← List.drop_drop, List.drop_left' (idL32 _), eArr_list, List.cons_append, List.drop_succ_cons, List.drop_zero, List.append_assoc, List.take_left' (idL32 _)])
theorem mArr_th (m : Mg) (v : Value) : (mArr m v)[66]? = some (.int .i64 m.t.2.2) := by
  rw [← Array.getElem?_toList, mArr_list, show (66 : Nat) = 65 + 1 from rfl, List.getElem?_cons_succ, List.getElem?_append_right (by rw [idL32]; omega), idL32, List.getElem?_append_left (by rw [eL34]; omega)]
  have := eArr_host m.t
  rw [← Array.getElem?_toList] at this
  exact this
theorem id0_rep : List.replicate 32 (Value.int .u8 0) = (idArr 0#256).toList := by rw [idArr_zero]; rfl
section
variable {P : Program} {ρ : Operand → Value} {d : Option Tmp} {ty : TypeId} {pos : String} {af : Array Edge} {g : Option (Nat × Bool)} {y0 y1 y2 y3 y4 y5 y6 : Operand} {t : TypeId}
theorem ru_build_m024 {k : Int} {e : Ent} {n : Int} (S : Stt P t mZs) (h0 : ρ y0 = .int .i64 k) (h2 : ρ y2 = .agg (eArr e)) (h4 : ρ y4 = .int .i64 n) : RunsTo P ⟨d, .build t #[(0, y0), (2, y2), (4, y4)], ty, pos, af, g⟩ ρ (.agg (mArr ⟨k, 0#256, e, [], n, ⟨#[]⟩, ⟨#[]⟩⟩ nilV)) := by
  have := ru_build_st (P := P) (ρ := ρ) (d := d) (ty := ty) (pos := pos) (af := af) (g := g) (parts := #[(0, y0), (2, y2), (4, y4)]) S [(0, .int .i64 k), (2, .agg (eArr e)), (4, .int .i64 n)] (by simp [h0, h2, h4]) (fun j u hm => by
    simp only [List.mem_cons, Prod.mk.injEq, List.not_mem_nil, or_false] at hm
    rcases hm with ⟨rfl, rfl⟩ | ⟨rfl, rfl⟩ | ⟨rfl, rfl⟩
    · exact ⟨_, rfl, rfl⟩
    · exact ⟨_, rfl, by show (eArr _).size = _; rw [eArr_size]; rfl⟩
    · exact ⟨_, rfl, rfl⟩) (D := (mArr ⟨k, 0#256, e, [], n, ⟨#[]⟩, ⟨#[]⟩⟩ nilV).toList) (by
      show [Value.int .i64 k] ++ (List.replicate 32 (Value.int .u8 0) ++ ((eArr e).toList ++ ([Value.slice none 0 0] ++ ([Value.int .i64 n] ++ ([Value.string ⟨#[]⟩] ++ ([Value.string ⟨#[]⟩] ++ [])))))) = _
      rw [id0_rep]; rfl)
  exact this
theorem ru_build_m0125 {k : Int} {i : Id} {e : Ent} {o : ByteArray} (S : Stt P t mZs) (h0 : ρ y0 = .int .i64 k) (h1 : ρ y1 = .agg (idArr i)) (h2 : ρ y2 = .agg (eArr e)) (h5 : ρ y5 = .string o) : RunsTo P ⟨d, .build t #[(0, y0), (1, y1), (2, y2), (5, y5)], ty, pos, af, g⟩ ρ (.agg (mArr ⟨k, i, e, [], 0, o, ⟨#[]⟩⟩ nilV)) := by
  have := ru_build_st (P := P) (ρ := ρ) (d := d) (ty := ty) (pos := pos) (af := af) (g := g) (parts := #[(0, y0), (1, y1), (2, y2), (5, y5)]) S [(0, .int .i64 k), (1, .agg (idArr i)), (2, .agg (eArr e)), (5, .string o)] (by simp [h0, h1, h2, h5]) (fun j u hm => by
    simp only [List.mem_cons, Prod.mk.injEq, List.not_mem_nil, or_false] at hm
    rcases hm with ⟨rfl, rfl⟩ | ⟨rfl, rfl⟩ | ⟨rfl, rfl⟩ | ⟨rfl, rfl⟩
    · exact ⟨_, rfl, rfl⟩
    · exact ⟨_, rfl, by show (idArr _).size = _; rw [idArr_size]; rfl⟩
    · exact ⟨_, rfl, by show (eArr _).size = _; rw [eArr_size]; rfl⟩
    · exact ⟨_, rfl, rfl⟩) (D := (mArr ⟨k, i, e, [], 0, o, ⟨#[]⟩⟩ nilV).toList) (by
      show [Value.int .i64 k] ++ ((idArr i).toList ++ ((eArr e).toList ++ ([Value.slice none 0 0] ++ ([Value.int .i64 0] ++ ([Value.string o] ++ ([Value.string ⟨#[]⟩] ++ [])))))) = _
      rfl)
  exact this
theorem ru_build_m0124 {k : Int} {i : Id} {e : Ent} {n : Int} (S : Stt P t mZs) (h0 : ρ y0 = .int .i64 k) (h1 : ρ y1 = .agg (idArr i)) (h2 : ρ y2 = .agg (eArr e)) (h4 : ρ y4 = .int .i64 n) : RunsTo P ⟨d, .build t #[(0, y0), (1, y1), (2, y2), (4, y4)], ty, pos, af, g⟩ ρ (.agg (mArr ⟨k, i, e, [], n, ⟨#[]⟩, ⟨#[]⟩⟩ nilV)) := by
  have := ru_build_st (P := P) (ρ := ρ) (d := d) (ty := ty) (pos := pos) (af := af) (g := g) (parts := #[(0, y0), (1, y1), (2, y2), (4, y4)]) S [(0, .int .i64 k), (1, .agg (idArr i)), (2, .agg (eArr e)), (4, .int .i64 n)] (by simp [h0, h1, h2, h4]) (fun j u hm => by
    simp only [List.mem_cons, Prod.mk.injEq, List.not_mem_nil, or_false] at hm
    rcases hm with ⟨rfl, rfl⟩ | ⟨rfl, rfl⟩ | ⟨rfl, rfl⟩ | ⟨rfl, rfl⟩
    · exact ⟨_, rfl, rfl⟩
    · exact ⟨_, rfl, by show (idArr _).size = _; rw [idArr_size]; rfl⟩
    · exact ⟨_, rfl, by show (eArr _).size = _; rw [eArr_size]; rfl⟩
    · exact ⟨_, rfl, rfl⟩) (D := (mArr ⟨k, i, e, [], n, ⟨#[]⟩, ⟨#[]⟩⟩ nilV).toList) (by
      show [Value.int .i64 k] ++ ((idArr i).toList ++ ((eArr e).toList ++ ([Value.slice none 0 0] ++ ([Value.int .i64 n] ++ ([Value.string ⟨#[]⟩] ++ ([Value.string ⟨#[]⟩] ++ [])))))) = _
      rfl)
  exact this
end
/-! what is judged, and the message that asks, as one -/
section
variable {P : Program} {ρ : Operand → Value} {d : Option Tmp} {ty : TypeId} {pos : String} {af : Array Edge} {g : Option (Nat × Bool)} {x y : Operand} {t : TypeId}
end
/-! what the package answers -/
def GdP (w : World) (vs : Value) (m a : Mg) (k e : Int) : Asrt := fun v w' => ∃ u ks, v = .tuple #[.int .i64 k, .agg (mArr a u), .int .i64 e] ∧ St w [.grp ks fun w9 => RdE w9 vs m.l → RdE w9 u a.l] w'
theorem judA_l (s : ByteArray) (m : Mg) : (judA s m).l = [] ∧ (gdA s m).l = [] := by
  have h : (judA s m).l = [] := by unfold judA; cases !decide (m.t.1 = 1) && decide (m.k = 2) <;> rfl
  refine ⟨h, ?_⟩
  unfold gdA; cases decide (gdE s m = 0)
  · rfl
  · exact h
/-! the laws' facts -/
/-- one to an identifier -/
theorem gd_ins {s : ByteArray} {i to : Id} {n : Int} (hs : s.size ≤ 64) (h0 : 0 ≤ n) (h1 : n ≤ 1099511627776) : gdE s ⟨2, i, (1, to, 0), [], n, ⟨#[]⟩, ⟨#[]⟩⟩ = 0 ∧ gdK s ⟨2, i, (1, to, 0), [], n, ⟨#[]⟩, ⟨#[]⟩⟩ = bif linksM i to then 2 else 4 := by
  have a1 : aboutM ⟨2, i, (1, to, 0), [], n, ⟨#[]⟩, ⟨#[]⟩⟩ = true := right_about (by rw [isE_iff]; exact .inl ⟨rfl, rfl⟩) (.inl ⟨rfl, h0, h1, rfl⟩)
  have g1 := gd_ok a1 hs
  exact ⟨g1.1, g1.2.1.trans rfl⟩
/-- a host is asked -/
def mI5 : Mg := ⟨2, 0#256, (2, 0#256, 3), [], 5, ⟨#[]⟩, ⟨#[]⟩⟩
def sS1 : ByteArray := ⟨#[115]⟩
theorem al15 : gdE sS1 mI5 = 0 ∧ gdK sS1 mI5 = 1 ∧ (gdA sS1 mI5).k = 3 ∧ (gdA sS1 mI5).o.size = 16 := by
  have a1 : aboutM mI5 = true := right_about (by rw [isE_iff]; exact .inr ⟨rfl, rfl, by decide, by decide⟩) (.inl ⟨rfl, by decide, by decide, rfl⟩)
  have g1 := gd_ok a1 (s := sS1) (by decide)
  refine ⟨g1.1, g1.2.1.trans rfl, ?_, ?_⟩
  · rw [g1.2.2]; rfl
  · rw [g1.2.2]; exact nc_size _ _
theorem tg_n {m : Mg} {now : Int} (h : tgB m now = false) : tgE m now = 1 ∧ tgT m now = zTg := by unfold tgE tgT; rw [h]; exact ⟨rfl, rfl⟩
theorem tg_y {m : Mg} {now : Int} (h : tgB m now = true) : tgE m now = 0 ∧ tgT m now = trgT m now := by unfold tgE tgT; rw [h]; exact ⟨rfl, rfl⟩
theorem tb_0 {m : Mg} (now : Int) (h : aboutM m = false) : tgB m now = false := by unfold tgB; rw [h]; rfl
theorem tb_2 {m : Mg} {now : Int} (h : decide (now < 0) = true) : tgB m now = false := by unfold tgB; rw [decide_eq_false (show ¬ 0 ≤ now by have := of_decide_eq_true h; omega)]; simp
theorem tb_3 {m : Mg} {now : Int} (h : decide (1099511627776 < now) = true) : tgB m now = false := by unfold tgB; rw [decide_eq_false (show ¬ now ≤ 1099511627776 by have := of_decide_eq_true h; omega)]; simp
theorem tb_y {m : Mg} {now : Int} (h : aboutM m = true) (h1 : decide (m.k = 6) = false) (h2 : decide (now < 0) = false) (h3 : decide (1099511627776 < now) = false) : tgB m now = true := by
  unfold tgB; rw [h, h1, decide_eq_true (show 0 ≤ now by have := of_decide_eq_false h2; omega), decide_eq_true (show now ≤ 1099511627776 by have := of_decide_eq_false h3; omega)]; rfl
theorem about_n {m : Mg} (h : aboutM m = true) (h1 : decide (m.k = 6) = false) : 0 ≤ m.n ∧ m.n ≤ 1099511627776 := by
  have ht := about_t h
  rcases (about_iff.1 h).2 with e | e | e
  · exact ⟨(ht.2.2.2.1 e).1, (ht.2.2.2.1 e).2.1⟩
  · exact ⟨(ht.2.2.2.2.1 e).1, (ht.2.2.2.2.1 e).2.1⟩
  · exact absurd e (of_decide_eq_false h1)
theorem hm_1000 (m : Int) : ∃ h : Nat, (m.tmod 1000 + 1000).tmod 1000 = (h : Int) ∧ h < 1000 := by
  have h1 := tm_N m (show (1 : Int) ≤ 1000 by decide)
  have h2 := Int.tmod_nonneg (b := 1000) (a := m.tmod 1000 + 1000) (by omega)
  have h3 := Int.tmod_lt_of_pos (m.tmod 1000 + 1000) (b := 1000) (by decide)
  exact ⟨((m.tmod 1000 + 1000).tmod 1000).toNat, by omega, by omega⟩
/-- the target's identifier, set -/
theorem mArr_splTi (k : Int) (i q to : Id) (a b : Int) (l : List Ent) (n : Int) (o d : ByteArray) (v : Value) : spl (mArr ⟨k, i, (a, to, b), l, n, o, d⟩ v) 34 (idArr q) = mArr ⟨k, i, (a, q, b), l, n, o, d⟩ v := by
  have h2 : (mArr ⟨k, i, (a, to, b), l, n, o, d⟩ v).toList = (Value.int .i64 k :: ((idArr i).toList ++ [Value.int .i64 a])) ++ ((idArr to).toList ++ ([Value.int .i64 b] ++ [v, .int .i64 n, .string o, .string d])) := by
    rw [mArr_list]; show _ :: ((idArr i).toList ++ ((eArr (a, to, b)).toList ++ _)) = _
    rw [eArr_list]; simp
  have hl : (Value.int .i64 k :: ((idArr i).toList ++ [Value.int .i64 a])).length = 34 := by rw [List.length_cons, List.length_append, idL32]; rfl
  have h3 : (mArr ⟨k, i, (a, q, b), l, n, o, d⟩ v).toList = (Value.int .i64 k :: ((idArr i).toList ++ [Value.int .i64 a])) ++ ((idArr q).toList ++ ([Value.int .i64 b] ++ [v, .int .i64 n, .string o, .string d])) := by
    rw [mArr_list]; show _ :: ((idArr i).toList ++ ((eArr (a, q, b)).toList ++ _)) = _
    rw [eArr_list]; simp
  apply Array.ext'
  unfold spl
  rw [h3, h2, idArr_size, List.take_left' hl, show (34 + 32) = 34 + 32 from rfl, ← List.drop_drop, List.drop_left' hl, List.drop_left' (idL32 to)]
  simp
end Go.Proofs.YtcnnlakcpcofkaaDoor

namespace Go.Proofs.YtcnnlakcpcofkaaDoor
open Go.RowKit
/-! ### the law of resources, with a piece that operations share whose order is not told: what it is hangs on which of them have been -/
section
variable {P : Program} {ro : Option Nat} {ops : List Oper} {cls cons : List (List Nat)} {a0 : Act} {Q : Exit → Act → World → Prop} {w0 w1 : World}
def setF (l : Nat → Bool) (i : Nat) : Nat → Bool := fun j => bif Nat.beq j i then true else l j
/-- one operation's duty -/
def ObE (P : Program) (ops : List Oper) (cls cons : List (List Nat)) (Rs : List Res) (I0 : List (List Own)) (Fs : List Fct) (Sh : (Nat → Bool) → (Nat → Value) → List Own) (Bs : List Own) (w0 : World) (a0 : Act) (i : Nat) (o : Oper) : Prop :=
  ∀ (a : Act) (w : World) (val : Nat → Value) (E : List Own) (lst : Nat → Bool), lst i = false → (∀ j ∈ cls.getD i [], lst j = true) → (∀ k, lst k = true → ∀ j ∈ cls.getD k [], lst j = true) → a.tmps.size = a0.tmps.size → a.defers = a0.defers →
    (∀ t ∈ o.looksAt ops.toArray, slotC ops (cls.getD i []) a0 a val t) →
    (∀ j ∈ cls.getD i [], fctC cls Fs val j) → St w0 ((cons.getD i []).flatMap (resC ops cls Rs I0 val) ++ (Sh lst val ++ (Bs ++ E))) w →
    Lst P ops.toArray (fun a' w' => ∃ v, (∀ d, o.dst = some d → a'.tmps.getD d undef = v) ∧ fctC cls Fs (upv val i v) i ∧ St w0 (resC ops cls Rs I0 (upv val i v) i ++ (Sh (setF lst i) (upv val i v) ++ (Bs ++ E))) w') [o] a w
structure JE (ops : List Oper) (cls cons : List (List Nat)) (q : Nat) (Rs : List Res) (I0 : List (List Own)) (Fs : List Fct) (Sh : (Nat → Bool) → (Nat → Value) → List Own) (Bs : List Own) (w0 : World) (a0 : Act) (m : Nat) (listed : Array Bool) (a : Act) (w : World) (val : Nat → Value) : Prop where
  size : a.tmps.size = a0.tmps.size
  defers : a.defers = a0.defers
  lsize : listed.size = ops.length
  tail : ∀ i, m ≤ i → listed.getD i false = false
  done : ∀ i d, dstOf ops i = some d → listed.getD i false = true → a.tmps.getD d undef = val i
  rest : ∀ t, (∀ j, dstOf ops j = some t → listed.getD j false = false) → a.tmps.getD t undef = a0.tmps.getD t undef
  closed : ∀ i, listed.getD i false = true → ∀ j ∈ cls.getD i [], listed.getD j false = true
  facts : ∀ i, listed.getD i false = true → fctC cls Fs val i
  st : St w0 (((List.range (ops.length + q)).filter (liveC ops cons fun j => listed.getD j false)).flatMap (resC ops cls Rs I0 val) ++ (Sh (fun j => listed.getD j false) val ++ Bs)) w
theorem wp_regionE {q rid m : Nat} {Rs : List Res} {I0 : List (List Own)} {Fs : List Fct} {Sh : (Nat → Bool) → (Nat → Value) → List Own} {Bs : List Own} (hm : P.follows .mixedOrders = true) (hok : okRegC ops cls cons q a0.tmps.size = true) (hsel : Region.noSelect ops.toArray = true)
    (hml : m ≤ ops.length) (hT : ∀ i, m ≤ i → i < ops.length → ∀ j, j < i → j ∈ cls.getD i [])
    (hob : ∀ i o, i < m → ops[i]? = some o → ObE P ops cls cons Rs I0 Fs Sh Bs w0 a0 i o)
    (s : St w0 (((List.range (ops.length + q)).filter (liveC ops cons fun _ => false)).flatMap (resC ops cls Rs I0 fun _ => undef) ++ (Sh (fun _ => false) (fun _ => undef) ++ Bs)) w1)
    (hfin : ∀ (b : Act) (w : World) (val : Nat → Value), b.tmps.size = a0.tmps.size → b.defers = a0.defers → (∀ i d, i < m → dstOf ops i = some d → b.tmps.getD d undef = val i) → (∀ t, (∀ i, i < m → dstOf ops i ≠ some t) → b.tmps.getD t undef = a0.tmps.getD t undef) →
      (∀ i, i < m → fctC cls Fs val i) → St w0 (((List.range (ops.length + q)).filter (liveC ops cons fun j => Nat.blt j m)).flatMap (resC ops cls Rs I0 val) ++ (Sh (fun j => Nat.blt j m) val ++ Bs)) w → Lst P ops.toArray (Q .normal) (ops.drop m) b w) :
    (Code.region rid ops.toArray true).wpIn (FR ro) 0 P Q a0 w1 := by
  refine wpIn_region_any hm ?_
  have hend : ∀ (listed : Array Bool) (a : Act) (w : World) (val : Nat → Value), JE ops cls cons q Rs I0 Fs Sh Bs w0 a0 m listed a w val → (∀ i, i < m → listed.getD i false = true) → ∀ fuel, ops.length = m + fuel → wpAnyIn (FR ro) 0 P .any ops.toArray Q fuel listed a w := by
    intro listed a w val I hall fuel hfu
    refine wpAny_tailC hok hT fuel m listed a w hfu (Nat.le_refl _) I.lsize hall I.tail ?_
    have hfd : fuel = (ops.drop m).length := by rw [List.length_drop]; omega
    rw [hfd, wpOpsIn_eq_wpListIn (ops.drop m) m (fun j => by rw [List.getElem?_toArray, List.getElem?_drop])]
    refine Lst.wp ?_
    refine hfin a w val I.size I.defers (fun i d hi hd => I.done i d hd (hall i hi)) (fun t ht => I.rest t fun j hj => ?_) (fun i hi => I.facts i (hall i hi)) ?_
    · rcases Nat.lt_or_ge j m with h | h
      · exact absurd hj (ht j h)
      · exact I.tail j h
    have hfun : (fun j => listed.getD j false) = fun j => Nat.blt j m := by
      funext j
      rcases Nat.lt_or_ge j m with h | h
      · rw [hall j h]; exact (blt_t h).symm
      · rw [blt_f h]; exact I.tail j h
    have h9 := I.st
    rw [hfun] at h9
    exact h9
  have hcount : ∀ (fuel : Nat) (listed : Array Bool) (a : Act) (w : World) (val : Nat → Value), listed.toList.count false = fuel → JE ops cls cons q Rs I0 Fs Sh Bs w0 a0 m listed a w val → wpAnyIn (FR ro) 0 P .any ops.toArray Q fuel listed a w := by
    intro fuel
    induction fuel with
    | zero =>
      intro listed a w val hc I
      have hall : ∀ i, i < ops.length → listed.getD i false = true := fun i hi => count_zero hc i (by rw [I.lsize]; exact hi)
      refine hend listed a w val I (fun i hi => hall i (by omega)) 0 ?_
      rcases Nat.lt_or_ge m ops.length with h | h
      · have := I.tail m (Nat.le_refl _)
        rw [hall m h] at this; cases this
      · omega
    | succ fuel ih =>
      intro listed a w val hc I
      by_cases hall : ∀ i, i < m → listed.getD i false = true
      · refine hend listed a w val I hall (fuel + 1) ?_
        have key : ∀ (b : List Bool) (m : Nat), m ≤ b.length → (∀ i, i < m → b[i]? = some true) → (∀ i, m ≤ i → i < b.length → b[i]? = some false) → b.count false = b.length - m := by
          intro b
          induction b with
          | nil => intro m _ _ _; simp
          | cons x b ihb =>
            intro m hm h1 h2
            cases m with
            | zero =>
              have hx : x = false := by simpa using h2 0 (Nat.le_refl _) (by simp)
              have := ihb 0 (Nat.zero_le _) (fun i hi => by omega) (fun i _ hi => by simpa using h2 (i + 1) (Nat.zero_le _) (by simp; omega))
              subst hx; simp [this]
            | succ m =>
              have hx : x = true := by simpa using h1 0 (by omega)
              have := ihb m (by simpa using hm) (fun i hi => by simpa using h1 (i + 1) (by omega)) (fun i hi hi2 => by simpa using h2 (i + 1) (by omega) (by simp; omega))
              subst hx; simp [this]
        have hk := key listed.toList m (by simp [I.lsize]; omega)
          (fun i hi => by have := hall i hi; have hil : i < listed.size := by rw [I.lsize]; omega
                          simp [hil] at this ⊢; exact this)
          (fun i hi hi2 => by have := I.tail i hi; have hil : i < listed.size := by simpa using hi2
                              simp [hil] at this ⊢; exact this)
        rw [hc] at hk
        simp [I.lsize] at hk
        omega
      refine ⟨fun hr => absurd (fun i hi => readyC_nil hok I.lsize hr i (by omega)) hall, fun k hk => ?_⟩
      obtain ⟨o, ho, hf, hdir⟩ := ready_direct hk
      have hkl := (List.getElem?_eq_some_iff.1 ho).1
      have hks : k < listed.size := by rw [I.lsize]; exact hkl
      have hkm : k < m := by
        rcases Nat.lt_or_ge k m with h3 | h3
        · exact h3
        · exfalso
          apply hall
          intro j hj
          rcases (okC_direct hok ho).2 j (hT k h3 hkl j (by omega)) with h4 | ⟨p, hp, h4⟩
          · exact hdir j h4
          · exact I.closed p (hdir p hp) j h4
      have hu := hf I.lsize
      have hcl : ∀ j ∈ cls.getD k [], listed.getD j false = true := fun j hj => by
        rcases (okC_direct hok ho).2 j hj with h1 | ⟨q, hq, h1⟩
        · exact hdir j h1
        · exact I.closed q (hdir q hq) j h1
      have hcnt : (listed.setIfInBounds k true).toList.count false = fuel := by have := count_set hks hu; omega
      have hnk : ∀ i, listed.getD i false = true → k ∉ cls.getD i [] := fun i hi hm => by have := I.closed i hi k hm; rw [hu] at this; cases this
      have hkk : k ∉ cls.getD k [] := fun hm => by have := clsC_lt hok k hkl k hm; omega
      obtain ⟨hcn, hcc⟩ := okC_cons hok ho
      -- what it uses up stands
      have hclive : ∀ j ∈ cons.getD k [], liveC ops cons (fun j => listed.getD j false) j = true := fun j hj => by
        obtain ⟨_, h2, h3⟩ := hcc j hj
        refine live_iff.2 ⟨h2.imp id (hcl j), fun i hi hl hm => ?_⟩
        rw [h3 i hi hm] at hl
        rw [hu] at hl; cases hl
      have hperm : ((List.range (ops.length + q)).filter (liveC ops cons fun j => listed.getD j false)).Perm (cons.getD k [] ++ (List.range (ops.length + q)).filter (fun j => liveC ops cons (fun j => listed.getD j false) j && !(cons.getD k []).contains j)) := by
        refine (List.perm_ext_iff_of_nodup (List.nodup_range.filter _) ?_).2 fun j => ?_
        · rw [List.nodup_append]
          refine ⟨hcn, List.nodup_range.filter _, fun x hx y hy e => ?_⟩
          subst e
          have := (Bool.and_eq_true _ _ ▸ (List.mem_filter.1 hy).2 : _ ∧ _).2
          exact not_has.1 this hx
        · rw [List.mem_append, List.mem_filter, List.mem_filter, List.mem_range, Bool.and_eq_true]
          constructor
          · rintro ⟨h1, h2⟩
            by_cases hj : j ∈ cons.getD k []
            · exact .inl hj
            · exact .inr ⟨h1, h2, not_has.2 hj⟩
          · rintro (h1 | ⟨h1, h2, _⟩)
            · exact ⟨(hcc j h1).1, hclive j h1⟩
            · exact ⟨h1, h2⟩
      obtain ⟨E, hE⟩ : ∃ E, E = ((List.range (ops.length + q)).filter (fun j => liveC ops cons (fun j => listed.getD j false) j && !(cons.getD k []).contains j)).flatMap (resC ops cls Rs I0 val) := ⟨_, rfl⟩
      have hst : St w0 ((cons.getD k []).flatMap (resC ops cls Rs I0 val) ++ (Sh (fun j => listed.getD j false) val ++ (Bs ++ E))) w := by
        refine I.st.perm ?_
        refine ((hperm.flatMap_right _).append_right (Sh (fun j => listed.getD j false) val ++ Bs)).trans ?_
        rw [List.flatMap_append, ← hE, List.append_assoc, ← List.append_assoc (Sh _ _)]
        exact (List.perm_append_comm).append_left _
      have hslots : ∀ t ∈ o.looksAt ops.toArray, slotC ops (cls.getD k []) a0 a val t := fun t ht => by
        unfold slotC
        cases hw : writer ops (cls.getD k []) t with
        | some j =>
          obtain ⟨hmj, oj, hj, hdj⟩ := find_spec hw
          exact I.done j t (by rw [dst_of hj, hdj]) (hcl j hmj)
        | none =>
          refine I.rest t fun j hdj => ?_
          cases hb : listed.getD j false with
          | false => rfl
          | true =>
            rcases okC_look hok ho t ht j hdj with h | h
            · obtain ⟨oj, h1, h2⟩ := getD_lt hdj
              exact absurd h (find_none hw j oj h1 h2)
            · exact absurd h (hnk j hb)
      have hO := hob k o hkm ho a w val E (fun j => listed.getD j false) hu hcl I.closed I.size I.defers hslots (fun j hj => I.facts j (hcl j hj)) hst
      have hset := set_iff hks
      have step : ∀ v v' w', (∀ d, o.dst = some d → v' = v) → fctC cls Fs (upv val k v) k → St w0 (resC ops cls Rs I0 (upv val k v) k ++ (Sh (setF (fun j => listed.getD j false) k) (upv val k v) ++ (Bs ++ E))) w' → wpAnyIn (FR ro) 0 P .any ops.toArray Q fuel (listed.setIfInBounds k true) (a.put o.dst v') w' := fun v v' w' hv hF hS => by
        have hmk : ∀ i, listed.getD i false = true → msk (i :: cls.getD i []) (upv val k v) = msk (i :: cls.getD i []) val := fun i hi => msk_congr fun j hj => by
          refine upv_other val v fun e => ?_
          subst e
          rcases List.mem_cons.1 hj with h | h
          · subst h; rw [hu] at hi; cases hi
          · exact hnk i hi h
        refine ih _ _ w' (upv val k v) hcnt ⟨by rw [Act.tmps_put_size]; exact I.size, by cases o.dst <;> exact I.defers, by simp [I.lsize], fun i hi => (by have h8 := I.tail i hi; have h7 : k ≠ i := (by omega); simpa [Array.getElem?_setIfInBounds_ne h7] using h8), fun i d hd hl => ?_, fun t ht => ?_, fun i hi j hj => ?_, fun i hi => ?_, ?_⟩
        · obtain ⟨hds, huniq⟩ := okC_dst hok hd
          by_cases hik : i = k
          · subst hik
            have hdo : o.dst = some d := by rw [dst_of ho] at hd; exact hd
            rw [hdo, put_getD, if_pos ⟨rfl, by rw [I.size]; exact hds⟩, upv_same]
            exact hv d hdo
          · have hne : o.dst ≠ some d := fun e => hik (huniq k (by rw [dst_of ho, e])).symm
            rw [upv_other val v hik]
            have h9 := I.done i d hd (((hset i).1 hl).resolve_left hik)
            cases hdo : o.dst with
            | none => exact h9
            | some d2 => rw [put_getD, if_neg (fun h => hne (by rw [hdo, h.1]))]; exact h9
        · have h9 := I.rest t fun j hj => by
            have := ht j hj
            cases hb : listed.getD j false with
            | false => rfl
            | true => rw [(hset j).2 (.inr hb)] at this; cases this
          cases hdo : o.dst with
          | none => exact h9
          | some d2 =>
            rw [put_getD, if_neg]
            · exact h9
            · rintro ⟨e, _⟩
              subst e
              have := ht k (by rw [dst_of ho, hdo])
              rw [(hset k).2 (.inl rfl)] at this; cases this
        · rcases (hset i).1 hi with e | e
          · subst e; exact (hset j).2 (.inr (hcl j hj))
          · exact (hset j).2 (.inr (I.closed i e j hj))
        · rcases (hset i).1 hi with e | e
          · subst e; exact hF
          · unfold fctC
            rw [hmk i e]
            exact I.facts i e
        · -- what stands now
          have hlive : ∀ j, liveC ops cons (fun j => (listed.setIfInBounds k true).getD j false) j = true ↔ (j = k ∨ (liveC ops cons (fun j => listed.getD j false) j = true ∧ j ∉ cons.getD k [])) := fun j => by
            rw [live_iff, live_iff]
            constructor
            · rintro ⟨h1, h2⟩
              by_cases hjk : j = k
              · exact .inl hjk
              · refine .inr ⟨⟨h1.imp id fun h => ((hset j).1 h).resolve_left hjk, fun i hi hl => h2 i hi ((hset i).2 (.inr hl))⟩, h2 k hkl ((hset k).2 (.inl rfl))⟩
            · rintro (rfl | ⟨⟨h1, h2⟩, h3⟩)
              · refine ⟨.inr ((hset j).2 (.inl rfl)), fun i hi hl hm => ?_⟩
                have hio : ops[i]? = some ops[i] := by simp [hi]
                rcases ((okC_cons hok hio).2 j hm).2.1 with h | h
                · omega
                · rcases (hset i).1 hl with e | e
                  · subst e; exact hkk h
                  · exact hnk i e h
              · refine ⟨h1.imp id fun h => (hset j).2 (.inr h), fun i hi hl => ?_⟩
                rcases (hset i).1 hl with e | e
                · subst e; exact h3
                · exact h2 i hi e
          have hp2 : ((List.range (ops.length + q)).filter (liveC ops cons fun j => (listed.setIfInBounds k true).getD j false)).Perm (k :: (List.range (ops.length + q)).filter (fun j => liveC ops cons (fun j => listed.getD j false) j && !(cons.getD k []).contains j)) := by
            refine (List.perm_ext_iff_of_nodup (List.nodup_range.filter _) ?_).2 fun j => ?_
            · rw [List.nodup_cons]
              refine ⟨fun hm => ?_, List.nodup_range.filter _⟩
              have h1 := (List.mem_filter.1 hm).2
              rw [Bool.and_eq_true] at h1
              rcases (live_iff.1 h1.1).1 with h | h
              · omega
              · rw [hu] at h; cases h
            · rw [List.mem_filter, List.mem_cons, List.mem_filter, List.mem_range, Bool.and_eq_true, hlive]
              constructor
              · rintro ⟨h1, h2 | ⟨h2, h3⟩⟩
                · exact .inl h2
                · exact .inr ⟨h1, h2, not_has.2 h3⟩
              · rintro (h1 | ⟨h1, h2, h3⟩)
                · exact ⟨by omega, .inl h1⟩
                · exact ⟨h1, .inr ⟨h2, not_has.1 h3⟩⟩
          have hsf : (fun j => (listed.setIfInBounds k true).getD j false) = setF (fun j => listed.getD j false) k := by
            funext j
            unfold setF
            cases hb : Nat.beq j k with
            | true => exact (hset j).2 (.inl (by simpa using hb))
            | false =>
              show _ = listed.getD j false
              cases hl : listed.getD j false with
              | true => exact (hset j).2 (.inr hl)
              | false =>
                cases h9 : (listed.setIfInBounds k true).getD j false with
                | false => rfl
                | true =>
                  rcases (hset j).1 h9 with e | e
                  · subst e; simp at hb
                  · rw [hl] at e; cases e
          refine hS.perm ?_
          refine List.Perm.trans ?_ ((hp2.flatMap_right _).append_right (Sh (fun j => (listed.setIfInBounds k true).getD j false) (upv val k v) ++ Bs)).symm
          rw [List.flatMap_cons, hsf]
          have hEq : ((List.range (ops.length + q)).filter (fun j => liveC ops cons (fun j => listed.getD j false) j && !(cons.getD k []).contains j)).flatMap (resC ops cls Rs I0 (upv val k v)) = E := by
            rw [hE, List.flatMap_def, List.flatMap_def]
            congr 1
            refine List.map_congr_left fun j hj => ?_
            have h1 := (List.mem_filter.1 hj).2
            rw [Bool.and_eq_true] at h1
            unfold resC
            rcases Nat.lt_or_ge j ops.length with h | h
            · have hl := (live_iff.1 h1.1).1.resolve_left (by omega)
              rw [hmk j hl]
            · rw [blt_f h]; rfl
          rw [hEq, List.append_assoc, ← List.append_assoc (Sh _ _)]
          exact (List.perm_append_comm).append_left _
      have ho' : ops.toArray[k]? = some o := by simpa using ho
      unfold wpOpIn
      simp only [ho']
      unfold Lst at hO
      split at hO
      · rename_i hw
        rw [if_pos hw]
        exact hO.wp fun v w' h9 => by
          unfold Lst at h9
          obtain ⟨u, h1, h2, h3⟩ := h9
          refine step u v w' (fun d hd => ?_) h2 h3
          have := h1 d hd
          rwa [hd, put_getD, if_pos ⟨rfl, by rw [I.size]; exact (okC_dst hok (by rw [dst_of ho, hd])).1⟩] at this
      · rename_i hw
        rw [if_neg hw]
        unfold Lst at hO
        obtain ⟨u, h1, h2, h3⟩ := hO
        refine ⟨fun _ _ => trivial, step u undef w (fun d hd => ?_) h2 h3⟩
        have := h1 d hd
        rwa [hd, put_getD, if_pos ⟨rfl, by rw [I.size]; exact (okC_dst hok (by rw [dst_of ho, hd])).1⟩] at this
  have hz : ∀ i, (Array.replicate ops.toArray.size false).getD i false = false := fun i => by simp [Array.getElem?_replicate]; split <;> rfl
  have hfz : (fun j => (Array.replicate ops.toArray.size false).getD j false) = fun _ => false := funext hz
  refine hcount _ _ _ _ (fun _ => undef) (by simp) ⟨rfl, rfl, by simp, fun i _ => hz i, fun i d _ h => ?_, fun _ _ => rfl, fun i h => ?_, fun i h => ?_, ?_⟩
  · rw [hz] at h; cases h
  · rw [hz] at h; cases h
  · rw [hz] at h; cases h
  · rw [hfz]; exact s.drew
end
section
variable {P : Program} {ro : Option Nat} {ops : List Oper} {cls cons : List (List Nat)} {a0 : Act} {Q : Exit → Act → World → Prop} {w0 w1 : World}
def AllE (P : Program) (ops : List Oper) (cls cons : List (List Nat)) (Rs : List Res) (I0 : List (List Own)) (Fs : List Fct) (Sh : (Nat → Bool) → (Nat → Value) → List Own) (Bs : List Own) (w0 : World) (a0 : Act) : List Oper → Nat → Prop
  | [], _ => True
  | o :: r, i => ObE P ops cls cons Rs I0 Fs Sh Bs w0 a0 i o ∧ AllE P ops cls cons Rs I0 Fs Sh Bs w0 a0 r (i + 1)
theorem allE_get {Rs : List Res} {I0 : List (List Own)} {Fs : List Fct} {Sh : (Nat → Bool) → (Nat → Value) → List Own} {Bs : List Own} : ∀ {l : List Oper} {k : Nat}, AllE P ops cls cons Rs I0 Fs Sh Bs w0 a0 l k → ∀ i o, l[i]? = some o → ObE P ops cls cons Rs I0 Fs Sh Bs w0 a0 (k + i) o
  | [], _, _, i, o, h => by simp at h
  | x :: r, k, H, 0, o, h => by simp at h; subst h; exact H.1
  | x :: r, k, H, i + 1, o, h => by
    have := allE_get H.2 i o (by simpa using h)
    rwa [show k + (i + 1) = k + 1 + i by omega]
theorem c_regE {rid N : Nat} {L : List (Nat × Value)} {Df : List Deferred} {B : List Own} (q : Nat) (cls cons : List (List Nat)) (Rs : List Res) (I0 : List (List Own)) (Fs : List Fct) (Sh : (Nat → Bool) → (Nat → Value) → List Own) (Bs : List Own)
    (h : Sl N a0 L Df) (s : St w0 B w1) (hB : ((List.range (ops.length + q)).filter (liveC ops cons fun _ => false)).flatMap (resC ops cls Rs I0 fun _ => undef) ++ (Sh (fun _ => false) (fun _ => undef) ++ Bs) = B) (hm : P.follows .mixedOrders = true) (hok : okRegC ops cls cons q N = true) (hsel : Region.noSelect ops.toArray = true)
    (hob : AllE P ops cls cons Rs I0 Fs Sh Bs w0 a0 ops 0) (lv : List Nat) (hlv : (List.range (ops.length + q)).filter (liveC ops cons fun j => Nat.blt j ops.length) = lv)
    (hfin : ∀ (b : Act) (w : World) (val : Nat → Value), b.tmps.size = N → b.defers = Df → (∀ i d, dstOf ops i = some d → b.tmps.getD d undef = val i) → (∀ t, (∀ i, dstOf ops i ≠ some t) → b.tmps.getD t undef = a0.tmps.getD t undef) →
      (∀ i, Nat.blt i ops.length = true → fctC cls Fs val i) → St w0 (lv.flatMap (resC ops cls Rs I0 val) ++ (Sh (fun j => Nat.blt j ops.length) val ++ Bs)) w → Q .normal b w) :
    (Code.region rid ops.toArray true).wpIn (FR ro) 0 P Q a0 w1 := by
  subst hB
  refine wp_regionE (m := ops.length) (Fs := Fs) (Sh := Sh) (I0 := I0) (Rs := Rs) hm (by rw [h.size]; exact hok) hsel (Nat.le_refl _) (fun i h1 h2 => absurd h2 (by omega)) (fun i o _ hi => ?_) s fun b w val h1 h2 h3 h4 h5 h6 => ?_
  · have := allE_get hob i o hi
    rwa [Nat.zero_add] at this
  · rw [List.drop_length]
    refine Lst.nil.2 (hfin b w val (h1.trans h.size) (h2.trans h.defers) (fun i d hd => h3 i d (dst_lt hd) hd) (fun t ht => h4 t fun i _ => ht i) (fun i hi => h5 i (Nat.le_of_ble_eq_true hi)) (by rw [hlv] at h6; exact h6))
end
end Go.Proofs.YtcnnlakcpcofkaaDoor

namespace Go.Proofs.YtcnnlakcpcofkaaDoor
open Go.RowKit
/-! ### package guard's own: what is judged, by kinds -/
theorem jd_ask {s : ByteArray} {m : Mg} (hk : m.k = 2) (ht : m.t.1 = 2) : judK s m = 1 ∧ judA s m = askM s m := by
  have h1 : decide (m.t.1 = 1) = false := by rw [ht]; rfl
  have h2 : decide (m.k = 2) = true := by rw [hk]; rfl
  refine ⟨?_, ?_⟩
  · unfold judK; rw [h1, h2]; rfl
  · unfold judA; rw [h1, h2]; rfl
theorem jd_ins {s : ByteArray} {m : Mg} (hk : m.k = 2) (he : isE m.t = true) (ht : ¬ m.t.1 = 2) : judK s m = (bif linksM m.i m.t.2.1 then 2 else 4) ∧ judA s m = mZ := by
  have h1 : decide (m.t.1 = 1) = true := decide_eq_true (by rcases (isE_iff m.t).1 he with h | h <;> omega)
  have h2 : decide (m.k = 2) = true := by rw [hk]; rfl
  refine ⟨?_, ?_⟩
  · unfold judK; rw [h1, h2, Bool.true_and]; rfl
  · unfold judA; rw [h1]; rfl
theorem jd_ech {s : ByteArray} {m : Mg} {x : Int} (hk : (m.k = 4 ∧ x = 2) ∨ (m.k = 6 ∧ x = 3)) (he : isE m.t = true) : judK s m = (bif decide (m.t.1 = 2) && decide (m.o = ncG s m) then x else 4) ∧ judA s m = mZ := by
  have h2 : decide (m.k = 2) = false := decide_eq_false (by omega)
  refine ⟨?_, ?_⟩
  · unfold judK
    rw [h2, Bool.false_and]
    have h9 : decide (m.t.1 = 1) = !decide (m.t.1 = 2) := by
      rcases (isE_iff m.t).1 he with h | h <;> rw [h.1] <;> rfl
    rw [h9]
    cases decide (m.t.1 = 2) with
    | false => rfl
    | true =>
      rw [Bool.true_and]
      rcases hk with ⟨h, rfl⟩ | ⟨h, rfl⟩ <;> rw [h] <;> cases decide (m.o = ncG s m) <;> rfl
  · unfold judA
    rw [h2, Bool.and_false]; rfl
def isJ (k : Int) : Bool := decide (k = 2) || (decide (k = 4) || decide (k = 6))
theorem about_j {m : Mg} : aboutM m = (rightM m && isJ m.k) := rfl
theorem isJ_iff {k : Int} : isJ k = true ↔ k = 2 ∨ k = 4 ∨ k = 6 := by
  unfold isJ
  rw [Bool.or_eq_true, Bool.or_eq_true, decide_eq_true_eq, decide_eq_true_eq, decide_eq_true_eq]
theorem tb_24 {m : Mg} (now : Int) (h2 : decide (m.k = 2) = false) (h4 : decide (m.k = 4) = false) : tgB m now = false := by
  unfold tgB
  cases ha : aboutM m with
  | false => rfl
  | true =>
    have h6 : m.k = 6 := by
      have := of_decide_eq_false h2
      have := of_decide_eq_false h4
      rcases (about_iff.1 ha).2 with e | e | e <;> omega
    rw [decide_eq_true h6]; rfl
theorem gdP_nil {w w' : World} {vs : Value} {m a : Mg} {k e : Int} (hl : a.l = []) (hE : Ext w w') : GdP w vs m a k e (.tuple #[.int .i64 k, .agg (mArr a nilV), .int .i64 e]) w' :=
  ⟨nilV, [], rfl, ((St.start w).more hE).grp0 fun w9 _ => by rw [hl]; exact re_nil w9⟩
/-! results of two: a value, a row -/
section
variable {P : Program} {a : Act} {w w0 : World} {N : Nat} {L : List (Nat × Value)} {B : List Own} {fn : Func} {t : TypeId}
theorem e_tmp_rowG {p q : Tmp} {T : Asrt} {b n : Nat} {C : Array Value} {u : TypeId} {V : Value} (i : Nat) (hres : fn.results = #[.tmp q, .cell p t]) (h : Sl N a L) (s : St w0 B w) (hr : Row P t n) (hq : lk L q = some V) (hp : lk L p = some (.pointer (some ⟨b, 0, none⟩))) (hi : B[i]? = some (.blk b (.cells C u))) (hn : C.size = n)
    (hT : T (.tuple #[V, .agg C]) w) : bodyPost P fn (Ret w0 T) .ret a w := by
  refine ⟨h.defers, .tuple #[V, .agg C], ?_, _, rfl, hT, s.ext⟩
  have hp' : a.tmps[p]?.getD undef = .pointer (some ⟨b, 0, none⟩) := by simpa using h.holds p _ hp
  have hq' : a.tmps[q]?.getD undef = V := by simpa using h.holds q _ hq
  simp [results, hres, hp', hq', asAddr, run_load_row hr w b C u (0, 0) (s.get i hi) hn]
end
/-! closures that hold two cells -/
def tup0 (v : Value) : Value := match v with | .tuple a => a.getD 0 undef | _ => undef
def capk : Value → Nat → Nat
  | .func _ _ caps, j => pbk (caps.getD j undef)
  | _, _ => 0
def mbk : Value → Nat
  | .map (some b) => b
  | _ => 0
def Cl2 (f : FuncId) (u v V : Value) (w : World) : Prop := ∃ a b, V = .func (.func f) #[] #[.pointer (some ⟨a, 0, none⟩), .pointer (some ⟨b, 0, none⟩)] ∧ Tab w a #[u] ∧ Tab w b #[v]
theorem cl2_own {w0 w : World} {f : FuncId} {a b : Nat} {u v V : Value} {t t' : TypeId} {B : List Own} (s : St w0 (.blk a (.cells #[u] t) :: .blk b (.cells #[v] t') :: B) w) (hV : V = .func (.func f) #[] #[.pointer (some ⟨a, 0, none⟩), .pointer (some ⟨b, 0, none⟩)]) :
    St w0 (.grp [capk V 0, capk V 1] (Cl2 f u v V) :: B) w := by
  subst hV
  exact (St.group (A := [.blk a (.cells #[u] t), .blk b (.cells #[v] t')]) (B := B) s).weak fun w9 h9 =>
    ⟨a, b, rfl, ⟨t, (0, 0), h9 (.blk a (.cells #[u] t)) (by simp)⟩, ⟨t', (0, 0), h9 (.blk b (.cells #[v] t')) (by simp)⟩⟩
/-! a map to functions, whatever the order of its entries -/
def Ents (es : Array MapEntry) (g : Int → Option Value) : Prop :=
  (∀ e ∈ es.toList, ∃ n : Int, e.key = .int .i64 n) ∧ ∀ k : Int, (∀ V, g k = some V → ∃ j, Instr.findNow (.int .i64) (.int .i64 k) es.toList 0 = some (some (j, V))) ∧ (g k = none → Instr.findNow (.int .i64) (.int .i64 k) es.toList 0 = some none)
theorem find_app (k n : Int) (V : Value) (c : Nat) : ∀ (l : List MapEntry) (i : Nat), (∀ e ∈ l, ∃ n : Int, e.key = .int .i64 n) →
    Instr.findNow (.int .i64) (.int .i64 k) (l ++ [{ key := .int .i64 n, val := V, born := c }]) i = (match Instr.findNow (.int .i64) (.int .i64 k) l i with | some none => if k = n then some (some (i + l.length, V)) else some none | r => r)
  | [], i, _ => by rw [List.nil_append, find_cons]; rfl
  | e :: l, i, h => by
    obtain ⟨m, hm⟩ := h e List.mem_cons_self
    obtain ⟨ek, ev, eb⟩ := e
    simp only at hm
    subst hm
    rw [List.cons_append, find_cons, find_cons, find_app k n V c l (i + 1) fun x hx => h x (List.mem_cons_of_mem _ hx)]
    by_cases hk : k = m
    · rw [if_pos hk, if_pos hk]
    · rw [if_neg hk, if_neg hk, List.length_cons, show i + 1 + l.length = i + (l.length + 1) by omega]
theorem ents_nil : Ents #[] fun _ => none := ⟨by simp, fun k => ⟨fun V h => (nomatch h), fun _ => rfl⟩⟩
theorem ents_push {es : Array MapEntry} {g g' : Int → Option Value} {n : Int} {V : Value} (c : Nat) (h : Ents es g) (hn : g n = none) (hg : ∀ k, g' k = if k = n then some V else g k) : Ents (es.push { key := .int .i64 n, val := V, born := c }) g' := by
  refine ⟨fun e he => ?_, fun k => ?_⟩
  · rw [Array.toList_push] at he
    rcases List.mem_append.1 he with he | he
    · exact h.1 e he
    · rw [List.mem_singleton.1 he]; exact ⟨n, rfl⟩
  · rw [Array.toList_push, find_app k n V c es.toList 0 h.1, hg k]
    obtain ⟨h1, h2⟩ := h.2 k
    by_cases hk : k = n
    · subst hk
      rw [if_pos rfl, h2 hn]
      refine ⟨fun U hU => ?_, fun h9 => by cases h9⟩
      cases hU
      exact ⟨0 + es.toList.length, by simp⟩
    · rw [if_neg hk]
      refine ⟨fun U hU => ?_, fun h9 => ?_⟩
      · obtain ⟨j, hj⟩ := h1 U hU
        exact ⟨j, by rw [hj]⟩
      · rw [h2 h9]; simp [hk]
def MapG (mb : Nat) (g : Int → Option Value) (w : World) : Prop := ∃ es c, w.heap[mb]? = some (.map es c) ∧ Ents es g
/-- which entries are there -/
def gM (b2 b4 b6 : Bool) (f2 f4 f6 : Value) (k : Int) : Option Value := if k = 2 then (bif b2 then some f2 else none) else if k = 4 then (bif b4 then some f4 else none) else if k = 6 then (bif b6 then some f6 else none) else none
def ShM (l0 b2 b4 b6 : Bool) (v0 f2 f4 f6 : Value) : Own := .grp (bif l0 then [mbk v0] else []) (fun w9 => l0 = true → MapG (mbk v0) (gM b2 b4 b6 f2 f4 f6) w9)
theorem St.unblk {w0 w : World} {b : Nat} {S : World → Prop} {o : Obj} {B : List Own} (s : St w0 (.grp [b] S :: B) w) (h : w.heap[b]? = some o) : St w0 (.blk b o :: B) w := by
  have hpw := List.pairwise_cons.1 s.nd
  refine ⟨s.ext, fun p hp => ?_, fun p hp k hk => ?_, List.pairwise_cons.2 ⟨fun q hq k hk => ?_, hpw.2⟩⟩
  · rcases List.mem_cons.1 hp with rfl | hp
    · exact h
    · exact s.has p (List.mem_cons_of_mem _ hp)
  · rcases List.mem_cons.1 hp with rfl | hp
    · rw [Own.at_blk] at hk; subst hk
      exact s.own _ List.mem_cons_self k (by simp [Own.at, Own.ks])
    · exact s.own p (List.mem_cons_of_mem _ hp) k hk
  · rw [Own.at_blk] at hk; subst hk
    exact hpw.1 q hq k (by simp [Own.at, Own.ks])
theorem St.reblk {w0 w : World} {b : Nat} {S : World → Prop} {o : Obj} {B : List Own} (s : St w0 (.blk b o :: B) w) (h : ∀ w9 : World, w9.heap[b]? = some o → S w9) : St w0 (.grp [b] S :: B) w :=
  (St.group (A := [.blk b o]) (B := B) s).weak fun w9 h9 => h w9 (h9 (.blk b o) (by simp))
section
variable {P : Program} {ops : Array Oper} {Q : Act → World → Prop} {l : List Oper} {a : Act} {w w0 : World} {N : Nat} {L : List (Nat × Value)} {Df : List Deferred} {B : List Own} {d : Tmp} {ty : TypeId} {pos : String} {af : Array Edge} {x y z : Operand} {t : TypeId}
theorem s_makeMapG {b2 b4 b6 : Bool} {v0 f2 f4 f6 : Value} (h : Sl N a L Df) (s : St w0 (ShM false b2 b4 b6 v0 f2 f4 f6 :: B) w) (hd : Nat.blt d N = true) (k : ∀ a' w' V, V = .map (some (mbk V)) → Sl N a' ((d, V) :: L) Df → St w0 (ShM true false false false V f2 f4 f6 :: B) w' → Lst P ops Q l a' w') :
    Lst P ops Q (⟨some d, .makeMap t none, ty, pos, af, none⟩ :: l) a w :=
  s_makeMap h s hd fun a' w' b h' s' => k a' w' _ rfl h' <|
      have s2 : St w0 (.grp [b] (fun w9 => true = true → MapG b (gM false false false f2 f4 f6) w9) :: .grp [] (fun w9 => false = true → MapG (mbk v0) (gM b2 b4 b6 f2 f4 f6) w9) :: B) w' :=
        St.reblk s' fun w9 h9 _ => ⟨#[], 0, h9, ents_nil.1, fun k9 => by
          have e : gM false false false f2 f4 f6 k9 = none := by unfold gM; repeat' split <;> try rfl
          rw [e]; exact ents_nil.2 k9⟩
      (s2.merge (S := fun w9 => true = true → MapG b (gM false false false f2 f4 f6) w9) fun w9 h1 _ => h1)
theorem s_insertG {kt et : TypeId} {b2 b4 b6 c2 c4 c6 : Bool} {v0 f2 f4 f6 V : Value} (n : Int) (h : Sl N a L Df) (s : St w0 (ShM true b2 b4 b6 v0 f2 f4 f6 :: B) w) (ht : P.underlying t = some (.map kt et)) (hk : P.underlying kt = some (.int .i64))
    (hx : evo L x = some (.map (some (mbk v0)))) (hy : evo L y = some (.int .i64 n)) (hz : evo L z = some V) (hn : gM b2 b4 b6 f2 f4 f6 n = none) (hg : ∀ k, gM c2 c4 c6 f2 f4 f6 k = if k = n then some V else gM b2 b4 b6 f2 f4 f6 k)
    (k : ∀ w', St w0 (ShM true c2 c4 c6 v0 f2 f4 f6 :: B) w' → Lst P ops Q l a w') : Lst P ops Q (⟨none, .insert t x y z, ty, pos, af, none⟩ :: l) a w := by
  obtain ⟨es, c, hh, he⟩ := s.getG 0 rfl rfl
  have s1 : St w0 (.blk (mbk v0) (.map es c) :: B) w := St.unblk (S := fun w9 => true = true → MapG (mbk v0) (gM b2 b4 b6 f2 f4 f6) w9) s hh
  refine s_insert (K := .int .i64 n) 0 h s1 ht hk rfl hx hy hz rfl ((he.2 n).2 hn) fun w' s' => k w' ?_
  exact St.reblk s' fun w9 h9 _ => ⟨_, _, h9, ents_push c he hn hg⟩
theorem s_lookG {kt et : TypeId} {mb : Nat} {g : Int → Option Value} {K : Int} {Z : Value} (h : Sl N a L Df) (hM : MapG mb g w) (ht : P.underlying t = some (.map kt et)) (hk : P.underlying kt = some (.int .i64)) (hZ : (P.info? et).bind (·.zero) = some Z)
    (hx : evo L x = some (.map (some mb))) (hy : evo L y = some (.int .i64 K)) (hd : Nat.blt d N = true)
    (k : ∀ a', Sl N a' ((d, .tuple #[(g K).getD Z, .bool (g K).isSome]) :: L) Df → Lst P ops Q l a' w) : Lst P ops Q (⟨some d, .lookup t x y true, ty, pos, af, none⟩ :: l) a w := by
  obtain ⟨es, c, hb, he⟩ := hM
  have hf : (∃ j, Instr.findNow (.int .i64) (.int .i64 K) es.toList 0 = some (some (j, (g K).getD Z)) ∧ (g K).isSome = true) ∨ (Instr.findNow (.int .i64) (.int .i64 K) es.toList 0 = some none ∧ (g K).getD Z = Z ∧ (g K).isSome = false) := by
    cases hg : g K with
    | some V =>
      obtain ⟨j, hj⟩ := (he.2 K).1 V hg
      exact .inl ⟨j, hj, rfl⟩
    | none => exact .inr ⟨(he.2 K).2 hg, rfl, rfl⟩
  generalize (g K).getD Z = V at hf k
  generalize (g K).isSome = ok at hf k
  have hkd : MapKept.IsKey (.int .i64) (.int .i64 K) := rfl
  have hzr : (zeroValue et).run P w = .ok Z w := by
    cases hi9 : P.info? et with
    | none => simp [hi9] at hZ
    | some info => simp [hi9] at hZ; simp [zeroValue, typeInfo, hi9, hZ, Result.andThen]
  have hrun : (Instr.lookup t (.map (some mb)) (.int .i64 K) true).run P w = .ok (.tuple #[V, .bool ok]) w := by
    rcases hf with ⟨j, hf, rfl⟩ | ⟨hf, rfl, rfl⟩
    · simp [Instr.lookup, run_underlying ht, MapKept.run_getObj_map hb, MapKept.run_checkKey hk hkd, MapKept.run_findKey hk hf, Result.andThen]
    · simp [Instr.lookup, run_underlying ht, MapKept.run_getObj_map hb, MapKept.run_checkKey hk hkd, MapKept.run_findKey hk hf, hzr, Result.andThen]
  refine s_does h (R := fun v w' => v = .tuple #[V, .bool ok] ∧ w' = w) ?_ hd fun a' w' v ⟨hv, hw⟩ h' => by subst hv; subst hw; exact k _ h'
  simp [Does, execOp, h.ev hx, h.ev hy, hrun, Result.andThen]
end
theorem gM_2 (b4 b6 : Bool) (f2 f4 f6 : Value) : ∀ k : Int, gM true b4 b6 f2 f4 f6 k = if k = 2 then some f2 else gM false b4 b6 f2 f4 f6 k := fun k => by
  unfold gM
  by_cases h : k = 2
  · rw [if_pos h, if_pos h]; rfl
  · rw [if_neg h, if_neg h, if_neg h]
theorem gM_4 (b2 b6 : Bool) (f2 f4 f6 : Value) : ∀ k : Int, gM b2 true b6 f2 f4 f6 k = if k = 4 then some f4 else gM b2 false b6 f2 f4 f6 k := fun k => by
  unfold gM
  by_cases h : k = 4
  · subst h; rfl
  · rw [if_neg h, if_neg h, if_neg h]
theorem gM_6 (b2 b4 : Bool) (f2 f4 f6 : Value) : ∀ k : Int, gM b2 b4 true f2 f4 f6 k = if k = 6 then some f6 else gM b2 b4 false f2 f4 f6 k := fun k => by
  unfold gM
  by_cases h : k = 6
  · subst h; rfl
  · rw [if_neg h, if_neg h, if_neg h]
theorem gM_no {f2 f4 f6 : Value} (k : Int) (h : isJ k = false) : gM true true true f2 f4 f6 k = none := by
  have h9 : ¬ (k = 2 ∨ k = 4 ∨ k = 6) := fun h8 => by rw [isJ_iff.2 h8] at h; cases h
  unfold gM
  rw [if_neg (by omega), if_neg (by omega), if_neg (by omega)]
theorem no_of {cls : List (List Nat)} {lst : Nat → Bool} (hlz : ∀ k, lst k = true → ∀ j ∈ cls.getD k [], lst j = true) (i k : Nat) (hlo : lst i = false) (hm : (cls.getD k []).contains i = true) : lst k = false := by
  cases hb : lst k with
  | false => rfl
  | true => have := hlz k hb i (List.contains_iff_mem.1 hm); rw [hlo] at this; cases this
/-- a function that judges messages of a kind -/
def ClS (P : Program) (w9 : World) (V : Value) (sx : ByteArray) (k : Int) : Prop := ∃ (f : FuncId) (caps : List Value), V = .func (.func f) #[] caps.toArray ∧ Fnc P f ∧ ∀ (m : Mg) (vs : Value), m.k = k → aboutM m = true → sx.size ≤ 64 → RdE w9 vs m.l → Tab w9 0 (wF hTab 8) → Tab w9 1 (wF kTab 64) →
  Calls P f ([Value.agg (mArr m vs)] ++ caps).toArray w9 (Ret w9 (is (.tuple #[.int .i64 (judK sx m), .agg (mArr (judA sx m) nilV)])))
def JdS (P : Program) (w9 : World) (mb : Nat) (g : Int → Option Value) (sx : ByteArray) : Prop := MapG mb g w9 ∧ (∀ k, isJ k = false → g k = none) ∧ ∀ k, isJ k = true → ∃ V, g k = some V ∧ ClS P w9 V sx k
def JdP (P : Program) (sx : ByteArray) (w : World) : Asrt := fun v w' => ∃ mb ks g, v = .map (some mb) ∧ St w [.grp ks (fun w9 => JdS P w9 mb g sx)] w'
theorem js_some {P : Program} {w9 : World} {mb : Nat} {g : Int → Option Value} {sx : ByteArray} (h : JdS P w9 mb g sx) (k : Int) : (g k).isSome = isJ k := by
  cases hb : isJ k with
  | false => rw [h.2.1 k hb]; rfl
  | true => obtain ⟨V, hV, _⟩ := h.2.2 k hb; rw [hV]; rfl
theorem js_get {P : Program} {w9 : World} {mb : Nat} {g : Int → Option Value} {sx : ByteArray} {Z : Value} {k : Int} (h : JdS P w9 mb g sx) (hk : isJ k = true) : ClS P w9 ((g k).getD Z) sx k := by
  obtain ⟨V, hV, hc⟩ := h.2.2 k hk
  rw [hV]; exact hc
end Go.Proofs.YtcnnlakcpcofkaaDoor
