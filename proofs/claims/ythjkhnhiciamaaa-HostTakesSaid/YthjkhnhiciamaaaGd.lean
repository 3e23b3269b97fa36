/- What is judged of messages about triggers; no Go in it. -/
import Derived.Test.YthjkhnhiciamaaaWr
set_option linter.unusedVariables false
set_option linter.unusedSimpArgs false
set_option linter.unusedSectionVars false
namespace Go.Proofs.Ythjkhnhiciamaaa
open Go.RowKit
/-! ### what the walks want of package guard -/
theorem id0_rep : List.replicate 32 (Value.int .u8 0) = (idArr 0#256).toList := by rw [idArr_zero]; rfl
section
variable {P : Program} {ρ : Operand → Value} {d : Option Tmp} {ty : TypeId} {pos : String} {af : Array Edge} {g : Option (Nat × Bool)} {y0 y1 y2 y3 y4 y5 y6 : Operand} {t : TypeId}
theorem ru_build_m01245 {k : Int} {i : Id} {e : Ent} {n : Int} {o : ByteArray} (S : Stt P t mZs) (h0 : ρ y0 = .int .i64 k) (h1 : ρ y1 = .agg (idArr i)) (h2 : ρ y2 = .agg (eArr e)) (h4 : ρ y4 = .int .i64 n) (h5 : ρ y5 = .string o) : RunsTo P ⟨d, .build t #[(0, y0), (1, y1), (2, y2), (4, y4), (5, y5)], ty, pos, af, g⟩ ρ (.agg (mArr ⟨k, i, e, [], n, o, ⟨#[]⟩⟩ nilV)) := by
  have := ru_build_st (P := P) (ρ := ρ) (d := d) (ty := ty) (pos := pos) (af := af) (g := g) (parts := #[(0, y0), (1, y1), (2, y2), (4, y4), (5, y5)]) S [(0, .int .i64 k), (1, .agg (idArr i)), (2, .agg (eArr e)), (4, .int .i64 n), (5, .string o)] (by simp [h0, h1, h2, h4, h5]) (fun j u hm => by
    simp only [List.mem_cons, Prod.mk.injEq, List.not_mem_nil, or_false] at hm
    rcases hm with ⟨rfl, rfl⟩ | ⟨rfl, rfl⟩ | ⟨rfl, rfl⟩ | ⟨rfl, rfl⟩ | ⟨rfl, rfl⟩
    · exact ⟨_, rfl, rfl⟩
    · exact ⟨_, rfl, by show (idArr _).size = _; rw [idArr_size]; rfl⟩
    · exact ⟨_, rfl, by show (eArr _).size = _; rw [eArr_size]; rfl⟩
    · exact ⟨_, rfl, rfl⟩
    · exact ⟨_, rfl, rfl⟩) (D := (mArr ⟨k, i, e, [], n, o, ⟨#[]⟩⟩ nilV).toList) (by
      show [Value.int .i64 k] ++ ((idArr i).toList ++ ((eArr e).toList ++ ([Value.slice none 0 0] ++ ([Value.int .i64 n] ++ ([Value.string o] ++ ([Value.string ⟨#[]⟩] ++ [])))))) = _
      rfl)
  exact this
theorem ru_build_m0124 {k : Int} {i : Id} {e : Ent} {n : Int} (S : Stt P t mZs) (h0 : ρ y0 = .int .i64 k) (h1 : ρ y1 = .agg (idArr i)) (h2 : ρ y2 = .agg (eArr e)) (h4 : ρ y4 = .int .i64 n) : RunsTo P ⟨d, .build t #[(0, y0), (1, y1), (2, y2), (4, y4)], ty, pos, af, g⟩ ρ (.agg (mArr ⟨k, i, e, [], n, ⟨#[]⟩, ⟨#[]⟩⟩ nilV)) := by
  have := ru_build_st (P := P) (ρ := ρ) (d := d) (ty := ty) (pos := pos) (af := af) (g := g) (parts := #[(0, y0), (1, y1), (2, y2), (4, y4)]) S [(0, .int .i64 k), (1, .agg (idArr i)), (2, .agg (eArr e)), (4, .int .i64 n)] (by simp [h0, h1, h2, h4]) (fun j u hm => by
    simp only [List.mem_cons, Prod.mk.injEq, List.not_mem_nil, or_false] at hm
    rcases hm with ⟨rfl, rfl⟩ | ⟨rfl, rfl⟩ | ⟨rfl, rfl⟩ | ⟨rfl, rfl⟩
    · exact ⟨_, rfl, rfl⟩
    · exact ⟨_, rfl, by show (idArr _).size = _; rw [idArr_size]; rfl⟩
    · exact ⟨_, rfl, by show (eArr _).size = _; rw [eArr_size]; rfl⟩
    · exact ⟨_, rfl, rfl⟩) (D := (mArr ⟨k, i, e, [], n, ⟨#[]⟩, ⟨#[]⟩⟩ nilV).toList) (by
      show [Value.int .i64 k] ++ ((idArr i).toList ++ ((eArr e).toList ++ ([Value.slice none 0 0] ++ ([Value.int .i64 n] ++ ([Value.string ⟨#[]⟩] ++ ([Value.string ⟨#[]⟩] ++ [])))))) = _
      rfl)
  exact this
theorem ru_build_m0346 {l : List Ent} {v : Value} (hv : v.cells.size = 1) (hc : v.cells.toList = [v]) {k : Int} {n : Int} {b : ByteArray} (S : Stt P t mZs) (h0 : ρ y0 = .int .i64 k) (h3 : ρ y3 = v) (h4 : ρ y4 = .int .i64 n) (h6 : ρ y6 = .string b) : RunsTo P ⟨d, .build t #[(0, y0), (3, y3), (4, y4), (6, y6)], ty, pos, af, g⟩ ρ (.agg (mArr ⟨k, 0#256, (0, 0#256, 0), l, n, ⟨#[]⟩, b⟩ v)) := by
  have := ru_build_st (P := P) (ρ := ρ) (d := d) (ty := ty) (pos := pos) (af := af) (g := g) (parts := #[(0, y0), (3, y3), (4, y4), (6, y6)]) S [(0, .int .i64 k), (3, v), (4, .int .i64 n), (6, .string b)] (by simp [h0, h3, h4, h6]) (fun j u hm => by
    simp only [List.mem_cons, Prod.mk.injEq, List.not_mem_nil, or_false] at hm
    rcases hm with ⟨rfl, rfl⟩ | ⟨rfl, rfl⟩ | ⟨rfl, rfl⟩ | ⟨rfl, rfl⟩
    · exact ⟨_, rfl, rfl⟩
    · exact ⟨_, rfl, hv⟩
    · exact ⟨_, rfl, rfl⟩
    · exact ⟨_, rfl, rfl⟩) (D := (mArr ⟨k, 0#256, (0, 0#256, 0), l, n, ⟨#[]⟩, b⟩ v).toList) (by
      show [Value.int .i64 k] ++ (List.replicate 32 (Value.int .u8 0) ++ ((Value.int .i64 0 :: (List.replicate 32 (Value.int .u8 0) ++ [Value.int .i64 0])) ++ (v.cells.toList ++ ([Value.int .i64 n] ++ ([Value.string ⟨#[]⟩] ++ ([Value.string b] ++ [])))))) = _
      rw [z34, id0_rep, hc]; rfl)
  exact this
end
/-! what is judged, and the message that asks, as one -/
theorem mZ_flat : (mArr mZ nilV).toList = mZs.flatten := by
  have : mArr mZ nilV = mZs.flatten.toArray := mArr_zero
  rw [this]
section
variable {P : Program} {ρ : Operand → Value} {d : Option Tmp} {ty : TypeId} {pos : String} {af : Array Edge} {g : Option (Nat × Bool)} {x y : Operand} {t : TypeId}
end
/-! what the package answers -/
/-! the laws' facts -/
end Go.Proofs.Ythjkhnhiciamaaa
