/- What the walks want of the program: its types and functions by number; no condition. -/
import Derived.Test.YtjkjhceffbcidaaProg
import Derived.KernelRfl
import Derived.Test.YtjkjhceffbcidaaEt
namespace Go.Proofs.Ytjkjhceffbcidaa
theorem idTy : IdTy Try.prog 24 5 := ⟨Try.underlying24, by kernel_rfl, Try.underlying5, by kernel_rfl, by rw [idV, idArr_zero]; kernel_rfl⟩
theorem row24 : Row Try.prog 24 32 := ⟨⟨_, Try.underlying24, rfl⟩, by kernel_rfl⟩
theorem row26 : Row Try.prog 26 34 := ⟨⟨_, Try.underlying26, rfl⟩, by kernel_rfl⟩
theorem row40 : Row Try.prog 40 3 := ⟨⟨_, Try.underlying40, rfl⟩, by kernel_rfl⟩
theorem one3 : One Try.prog 3 := ⟨⟨_, Try.underlying3, rfl⟩, by kernel_rfl⟩
theorem one5 : One Try.prog 5 := ⟨⟨_, Try.underlying5, rfl⟩, by kernel_rfl⟩
theorem one9 : One Try.prog 9 := ⟨⟨_, Try.underlying9, rfl⟩, by kernel_rfl⟩
theorem one22 : One Try.prog 22 := ⟨⟨_, Try.underlying22, rfl⟩, by kernel_rfl⟩
theorem one28 : One Try.prog 28 := ⟨⟨_, Try.underlying28, rfl⟩, by kernel_rfl⟩
theorem szo22 : (Try.prog.info? 22).map (·.size) = some 1 := by kernel_rfl
theorem szo26 : (Try.prog.info? 26).map (·.size) = some 34 := by kernel_rfl
theorem fld26_0 : Fld Try.prog 26 0 0 := ⟨⟨_, _, 0, Try.underlying26, rfl, by kernel_rfl, rfl⟩⟩
theorem fld26_1 : Fld Try.prog 26 1 1 := ⟨⟨_, _, 31, Try.underlying26, rfl, by kernel_rfl, rfl⟩⟩
theorem fld26_2 : Fld Try.prog 26 2 33 := ⟨⟨_, _, 0, Try.underlying26, rfl, by kernel_rfl, rfl⟩⟩
theorem fld40_0 : Fld Try.prog 40 0 0 := ⟨⟨_, _, 0, Try.underlying40, rfl, by kernel_rfl, rfl⟩⟩
theorem fld40_1 : Fld Try.prog 40 1 1 := ⟨⟨_, _, 0, Try.underlying40, rfl, by kernel_rfl, rfl⟩⟩
theorem fld40_2 : Fld Try.prog 40 2 2 := ⟨⟨_, _, 0, Try.underlying40, rfl, by kernel_rfl, rfl⟩⟩
theorem eqE0 : EqV Try.prog 2 24 (32 * 1) (fun xs => xs.length = 32 * 1 ∧ ∀ i, i < 32 → ∃ n, (xs.drop (i * 1)).take 1 = [Value.int .u8 n]) agV := EqV.arr (n := 32) (EqV.int .u8 Try.underlying5 (by kernel_rfl)) Try.underlying24 (by kernel_rfl)
theorem eqE (x y : Ent) : EqW Try.prog 3 26 34 (eArr x) (eArr y) := ⟨_, EqV.struct' [(1, (fun xs => ∃ n, xs = [Value.int .i64 n])), (32 * 1, (fun xs => xs.length = 32 * 1 ∧ ∀ i, i < 32 → ∃ n, (xs.drop (i * 1)).take 1 = [Value.int .u8 n])), (1, (fun xs => ∃ n, xs = [Value.int .i64 n]))] Try.underlying26 (by kernel_rfl) (by kernel_rfl) ⟨by decide, ⟨hd1, (EqV.int .i64 Try.underlying3 (by kernel_rfl)).up⟩, by decide, ⟨agV, eqE0⟩, by decide, ⟨hd1, (EqV.int .i64 Try.underlying3 (by kernel_rfl)).up⟩, trivial⟩ ⟨rfl, rfl, rfl, rfl⟩, ⟨by rw [Array.length_toList, eArr_size], ⟨_, eArr_f0 _⟩, (by show _ ∧ _; unfold cutF; dsimp only; rw [eArr_f1]; exact bytesV _ _), ⟨_, eArr_f2 _⟩, trivial⟩, ⟨by rw [Array.length_toList, eArr_size], ⟨_, eArr_f0 _⟩, (by show _ ∧ _; unfold cutF; dsimp only; rw [eArr_f1]; exact bytesV _ _), ⟨_, eArr_f2 _⟩, trivial⟩⟩
theorem sttE : Stt Try.prog 26 eZ := ⟨⟨_, Try.underlying26, rfl, fun i f hf => by
  match i, hf with
  | 0, hf => cases hf; exact ⟨_, rfl, by kernel_rfl, rfl⟩
  | 1, hf => cases hf; exact ⟨_, rfl, by kernel_rfl, rfl⟩
  | 2, hf => cases hf; exact ⟨_, rfl, by kernel_rfl, rfl⟩
  | i + 3, hf => simp at hf⟩, by kernel_rfl⟩
theorem sttT : Stt Try.prog 40 tZ := ⟨⟨_, Try.underlying40, rfl, fun i f hf => by
  match i, hf with
  | 0, hf => cases hf; exact ⟨_, rfl, by kernel_rfl, rfl⟩
  | 1, hf => cases hf; exact ⟨_, rfl, by kernel_rfl, rfl⟩
  | 2, hf => cases hf; exact ⟨_, rfl, by kernel_rfl, rfl⟩
  | i + 3, hf => simp at hf⟩, by kernel_rfl⟩
theorem size5 : (Try.prog.info? 5).map (·.size) = some 1 := by kernel_rfl
theorem zero26 : (Try.prog.info? 26).bind (·.zero) = some (.agg (eArr (0, 0#256, 0))) := by rw [eArr_zero]; kernel_rfl
theorem zero40 : (Try.prog.info? 40).bind (·.zero) = some (.agg #[.slice none 0 0, .int .i64 0, .int .i64 0]) := by kernel_rfl
theorem fnc (n : Nat) (h : (match Try.prog.funcs[n]? with | some fn => !fn.body.isNone && !(fn.name == "runtime.NumGoroutine") | none => false) = true) : Fnc Try.prog n := by
  cases hf : Try.prog.funcs[n]? with
  | none => rw [hf] at h; simp at h
  | some fn => rw [hf] at h; simp only [Bool.and_eq_true, Bool.not_eq_true'] at h; exact ⟨⟨fn, hf, h.1, h.2⟩⟩
theorem elm5 : Elm Try.prog 5 1 1 := ⟨⟨_, _, rfl, rfl, by kernel_rfl, by kernel_rfl, by kernel_rfl⟩, by decide⟩
theorem elm22 : Elm Try.prog 22 1 24 := ⟨⟨_, _, rfl, rfl, by kernel_rfl, by kernel_rfl, by kernel_rfl⟩, by decide⟩
theorem elm26 : Elm Try.prog 26 34 48 := ⟨⟨_, _, rfl, rfl, by kernel_rfl, by kernel_rfl, by kernel_rfl⟩, by decide⟩
theorem fnc8 : Fnc Try.prog 8 := fnc 8 (by kernel_rfl)
theorem fnc9 : Fnc Try.prog 9 := fnc 9 (by kernel_rfl)
theorem fnc10 : Fnc Try.prog 10 := fnc 10 (by kernel_rfl)
theorem fnc11 : Fnc Try.prog 11 := fnc 11 (by kernel_rfl)
theorem fnc12 : Fnc Try.prog 12 := fnc 12 (by kernel_rfl)
theorem fnc13 : Fnc Try.prog 13 := fnc 13 (by kernel_rfl)
theorem fnc14 : Fnc Try.prog 14 := fnc 14 (by kernel_rfl)
theorem fnc15 : Fnc Try.prog 15 := fnc 15 (by kernel_rfl)
theorem fnc16 : Fnc Try.prog 16 := fnc 16 (by kernel_rfl)
theorem fnc17 : Fnc Try.prog 17 := fnc 17 (by kernel_rfl)
theorem fnc18 : Fnc Try.prog 18 := fnc 18 (by kernel_rfl)
theorem fnc19 : Fnc Try.prog 19 := fnc 19 (by kernel_rfl)
theorem fnc20 : Fnc Try.prog 20 := fnc 20 (by kernel_rfl)
theorem fnc21 : Fnc Try.prog 21 := fnc 21 (by kernel_rfl)
theorem fnc22 : Fnc Try.prog 22 := fnc 22 (by kernel_rfl)
theorem fnc23 : Fnc Try.prog 23 := fnc 23 (by kernel_rfl)
theorem fnc24 : Fnc Try.prog 24 := fnc 24 (by kernel_rfl)
theorem fnc25 : Fnc Try.prog 25 := fnc 25 (by kernel_rfl)
theorem fnc26 : Fnc Try.prog 26 := fnc 26 (by kernel_rfl)
theorem fnc27 : Fnc Try.prog 27 := fnc 27 (by kernel_rfl)
theorem fnc28 : Fnc Try.prog 28 := fnc 28 (by kernel_rfl)
theorem fnc29 : Fnc Try.prog 29 := fnc 29 (by kernel_rfl)
end Go.Proofs.Ytjkjhceffbcidaa
