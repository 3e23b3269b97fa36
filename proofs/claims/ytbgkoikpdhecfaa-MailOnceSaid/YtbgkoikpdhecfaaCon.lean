/- What the walks want of the program: its types and functions by number; no condition. -/
import Derived.Test.YtbgkoikpdhecfaaProg
import Derived.KernelRfl
import Derived.Test.YtbgkoikpdhecfaaEo
namespace Go.Proofs.Ytbgkoikpdhecfaa
theorem row24 : Row Try.prog 24 3 := ⟨⟨_, Try.underlying24, rfl⟩, by kernel_rfl⟩
theorem row35 : Row Try.prog 35 4 := ⟨⟨_, Try.underlying35, rfl⟩, by kernel_rfl⟩
theorem one3 : One Try.prog 3 := ⟨⟨_, Try.underlying3, rfl⟩, by kernel_rfl⟩
theorem one4 : One Try.prog 4 := ⟨⟨_, Try.underlying4, rfl⟩, by kernel_rfl⟩
theorem one9 : One Try.prog 9 := ⟨⟨_, Try.underlying9, rfl⟩, by kernel_rfl⟩
theorem one22 : One Try.prog 22 := ⟨⟨_, Try.underlying22, rfl⟩, by kernel_rfl⟩
theorem one26 : One Try.prog 26 := ⟨⟨_, Try.underlying26, rfl⟩, by kernel_rfl⟩
theorem szo3 : (Try.prog.info? 3).map (·.size) = some 1 := by kernel_rfl
theorem szo9 : (Try.prog.info? 9).map (·.size) = some 1 := by kernel_rfl
theorem szo35 : (Try.prog.info? 35).map (·.size) = some 4 := by kernel_rfl
theorem fld24_0 : Fld Try.prog 24 0 0 := ⟨⟨_, _, 0, Try.underlying24, rfl, by kernel_rfl, rfl⟩⟩
theorem fld24_1 : Fld Try.prog 24 1 1 := ⟨⟨_, _, 0, Try.underlying24, rfl, by kernel_rfl, rfl⟩⟩
theorem fld24_2 : Fld Try.prog 24 2 2 := ⟨⟨_, _, 0, Try.underlying24, rfl, by kernel_rfl, rfl⟩⟩
theorem fld35_0 : Fld Try.prog 35 0 0 := ⟨⟨_, _, 0, Try.underlying35, rfl, by kernel_rfl, rfl⟩⟩
theorem fld35_1 : Fld Try.prog 35 1 1 := ⟨⟨_, _, 0, Try.underlying35, rfl, by kernel_rfl, rfl⟩⟩
theorem fld35_2 : Fld Try.prog 35 2 2 := ⟨⟨_, _, 0, Try.underlying35, rfl, by kernel_rfl, rfl⟩⟩
theorem fld35_3 : Fld Try.prog 35 3 3 := ⟨⟨_, _, 0, Try.underlying35, rfl, by kernel_rfl, rfl⟩⟩
theorem sttM : Stt Try.prog 24 mlZ := ⟨⟨_, Try.underlying24, rfl, fun i f hf => by
  match i, hf with
  | 0, hf => cases hf; exact ⟨_, rfl, by kernel_rfl, rfl⟩
  | 1, hf => cases hf; exact ⟨_, rfl, by kernel_rfl, rfl⟩
  | 2, hf => cases hf; exact ⟨_, rfl, by kernel_rfl, rfl⟩
  | i + 3, hf => simp at hf⟩, by kernel_rfl⟩
theorem sttL : Stt Try.prog 35 ltZ := ⟨⟨_, Try.underlying35, rfl, fun i f hf => by
  match i, hf with
  | 0, hf => cases hf; exact ⟨_, rfl, by kernel_rfl, rfl⟩
  | 1, hf => cases hf; exact ⟨_, rfl, by kernel_rfl, rfl⟩
  | 2, hf => cases hf; exact ⟨_, rfl, by kernel_rfl, rfl⟩
  | 3, hf => cases hf; exact ⟨_, rfl, by kernel_rfl, rfl⟩
  | i + 4, hf => simp at hf⟩, by kernel_rfl⟩
theorem eqL (x y : Lt) : EqW Try.prog 2 35 4 (ltArr x) (ltArr y) := ⟨_, EqV.struct' [(1, (fun xs => ∃ n, xs = [Value.int .i64 n])), (1, (fun xs => ∃ n, xs = [Value.int .i64 n])), (1, (fun xs => ∃ n, xs = [Value.int .i64 n])), (1, (fun xs => ∃ n, xs = [Value.string n]))] Try.underlying35 (by kernel_rfl) (by kernel_rfl) ⟨by decide, ⟨hd1, EqV.int .i64 Try.underlying3 (by kernel_rfl)⟩, by decide, ⟨hd1, EqV.int .i64 Try.underlying3 (by kernel_rfl)⟩, by decide, ⟨hd1, EqV.int .i64 Try.underlying3 (by kernel_rfl)⟩, by decide, ⟨hd1, EqV.str Try.underlying9 (by kernel_rfl)⟩, trivial⟩ ⟨rfl, rfl, rfl, rfl, rfl⟩, ⟨rfl, ⟨_, rfl⟩, ⟨_, rfl⟩, ⟨_, rfl⟩, ⟨_, rfl⟩, trivial⟩, ⟨rfl, ⟨_, rfl⟩, ⟨_, rfl⟩, ⟨_, rfl⟩, ⟨_, rfl⟩, trivial⟩⟩
theorem zero3 : (Try.prog.info? 3).bind (·.zero) = some (.int .i64 0) := by kernel_rfl
theorem zero4 : (Try.prog.info? 4).bind (·.zero) = some (.bool false) := by kernel_rfl
theorem zero9 : (Try.prog.info? 9).bind (·.zero) = some (.string ⟨#[]⟩) := by kernel_rfl
theorem zero22 : (Try.prog.info? 22).bind (·.zero) = some (.slice none 0 0) := by kernel_rfl
theorem zero24 : (Try.prog.info? 24).bind (·.zero) = some (.agg (mlArr zMl (.slice none 0 0))) := by kernel_rfl
theorem zero26 : (Try.prog.info? 26).bind (·.zero) = some (.int .i64 0) := by kernel_rfl
theorem zero35 : (Try.prog.info? 35).bind (·.zero) = some (.agg (ltArr zLt)) := by kernel_rfl
theorem fnc (n : Nat) (h : (match Try.prog.funcs[n]? with | some fn => !fn.body.isNone && !(fn.name == "runtime.NumGoroutine") | none => false) = true) : Fnc Try.prog n := by
  cases hf : Try.prog.funcs[n]? with
  | none => rw [hf] at h; simp at h
  | some fn => rw [hf] at h; simp only [Bool.and_eq_true, Bool.not_eq_true'] at h; exact ⟨⟨fn, hf, h.1, h.2⟩⟩
theorem elm35 : Elm Try.prog 35 4 40 := ⟨⟨_, _, rfl, rfl, by kernel_rfl, by kernel_rfl, by kernel_rfl⟩, by decide⟩
theorem fnc7 : Fnc Try.prog 7 := fnc 7 (by kernel_rfl)
theorem fnc8 : Fnc Try.prog 8 := fnc 8 (by kernel_rfl)
theorem fnc9 : Fnc Try.prog 9 := fnc 9 (by kernel_rfl)
theorem fnc10 : Fnc Try.prog 10 := fnc 10 (by kernel_rfl)
theorem fnc11 : Fnc Try.prog 11 := fnc 11 (by kernel_rfl)
theorem fnc12 : Fnc Try.prog 12 := fnc 12 (by kernel_rfl)
theorem fnc13 : Fnc Try.prog 13 := fnc 13 (by kernel_rfl)
theorem fnc14 : Fnc Try.prog 14 := fnc 14 (by kernel_rfl)
theorem fnc15 : Fnc Try.prog 15 := fnc 15 (by kernel_rfl)
theorem fnc16 : Fnc Try.prog 16 := fnc 16 (by kernel_rfl)
theorem fnc17 : Fnc Try.prog 17 := fnc 17 (by kernel_rfl)
theorem fnc18 : Fnc Try.prog 18 := fnc 18 (by kernel_rfl)
theorem fnc19 : Fnc Try.prog 19 := fnc 19 (by kernel_rfl)
theorem fnc20 : Fnc Try.prog 20 := fnc 20 (by kernel_rfl)
theorem fnc21 : Fnc Try.prog 21 := fnc 21 (by kernel_rfl)
theorem fnc22 : Fnc Try.prog 22 := fnc 22 (by kernel_rfl)
theorem fnc23 : Fnc Try.prog 23 := fnc 23 (by kernel_rfl)
theorem fnc24 : Fnc Try.prog 24 := fnc 24 (by kernel_rfl)
theorem fnc25 : Fnc Try.prog 25 := fnc 25 (by kernel_rfl)
theorem fnc26 : Fnc Try.prog 26 := fnc 26 (by kernel_rfl)
end Go.Proofs.Ytbgkoikpdhecfaa
