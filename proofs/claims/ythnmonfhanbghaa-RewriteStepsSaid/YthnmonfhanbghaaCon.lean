/- What the walks want of the program: its types and functions by number; no condition. -/
import Derived.Test.YthnmonfhanbghaaProg
import Derived.KernelRfl
import Derived.Test.YthnmonfhanbghaaRw
namespace Go.Proofs.Ythnmonfhanbghaa
theorem idTy : IdTy Try.prog 40 5 := ⟨Try.underlying40, by kernel_rfl, Try.underlying5, by kernel_rfl, by rw [idV, idArr_zero]; kernel_rfl⟩
theorem row25 : Row Try.prog 25 3 := ⟨⟨_, Try.underlying25, rfl⟩, by kernel_rfl⟩
theorem row40 : Row Try.prog 40 32 := ⟨⟨_, Try.underlying40, rfl⟩, by kernel_rfl⟩
theorem row42 : Row Try.prog 42 34 := ⟨⟨_, Try.underlying42, rfl⟩, by kernel_rfl⟩
theorem row44 : Row Try.prog 44 67 := ⟨⟨_, Try.underlying44, rfl⟩, by kernel_rfl⟩
theorem row46 : Row Try.prog 46 73 := ⟨⟨_, Try.underlying46, rfl⟩, by kernel_rfl⟩
theorem row72 : Row Try.prog 72 4 := ⟨⟨_, Try.underlying72, rfl⟩, by kernel_rfl⟩
theorem one3 : One Try.prog 3 := ⟨⟨_, Try.underlying3, rfl⟩, by kernel_rfl⟩
theorem one5 : One Try.prog 5 := ⟨⟨_, Try.underlying5, rfl⟩, by kernel_rfl⟩
theorem one9 : One Try.prog 9 := ⟨⟨_, Try.underlying9, rfl⟩, by kernel_rfl⟩
theorem one23 : One Try.prog 23 := ⟨⟨_, Try.underlying23, rfl⟩, by kernel_rfl⟩
theorem one29 : One Try.prog 29 := ⟨⟨_, Try.underlying29, rfl⟩, by kernel_rfl⟩
theorem szo23 : (Try.prog.info? 23).map (·.size) = some 1 := by kernel_rfl
theorem szo42 : (Try.prog.info? 42).map (·.size) = some 34 := by kernel_rfl
theorem szo44 : (Try.prog.info? 44).map (·.size) = some 67 := by kernel_rfl
theorem szo46 : (Try.prog.info? 46).map (·.size) = some 73 := by kernel_rfl
theorem fld25_0 : Fld Try.prog 25 0 0 := ⟨⟨_, _, 0, Try.underlying25, rfl, by kernel_rfl, rfl⟩⟩
theorem fld25_1 : Fld Try.prog 25 1 1 := ⟨⟨_, _, 0, Try.underlying25, rfl, by kernel_rfl, rfl⟩⟩
theorem fld25_2 : Fld Try.prog 25 2 2 := ⟨⟨_, _, 0, Try.underlying25, rfl, by kernel_rfl, rfl⟩⟩
theorem fld42_0 : Fld Try.prog 42 0 0 := ⟨⟨_, _, 0, Try.underlying42, rfl, by kernel_rfl, rfl⟩⟩
theorem fld42_1 : Fld Try.prog 42 1 1 := ⟨⟨_, _, 31, Try.underlying42, rfl, by kernel_rfl, rfl⟩⟩
theorem fld42_2 : Fld Try.prog 42 2 33 := ⟨⟨_, _, 0, Try.underlying42, rfl, by kernel_rfl, rfl⟩⟩
theorem fld44_0 : Fld Try.prog 44 0 0 := ⟨⟨_, _, 31, Try.underlying44, rfl, by kernel_rfl, rfl⟩⟩
theorem fld44_1 : Fld Try.prog 44 1 32 := ⟨⟨_, _, 33, Try.underlying44, rfl, by kernel_rfl, rfl⟩⟩
theorem fld44_2 : Fld Try.prog 44 2 66 := ⟨⟨_, _, 0, Try.underlying44, rfl, by kernel_rfl, rfl⟩⟩
theorem fld46_0 : Fld Try.prog 46 0 0 := ⟨⟨_, _, 0, Try.underlying46, rfl, by kernel_rfl, rfl⟩⟩
theorem fld46_1 : Fld Try.prog 46 1 1 := ⟨⟨_, _, 0, Try.underlying46, rfl, by kernel_rfl, rfl⟩⟩
theorem fld46_2 : Fld Try.prog 46 2 2 := ⟨⟨_, _, 2, Try.underlying46, rfl, by kernel_rfl, rfl⟩⟩
theorem fld46_3 : Fld Try.prog 46 3 5 := ⟨⟨_, _, 66, Try.underlying46, rfl, by kernel_rfl, rfl⟩⟩
theorem fld46_4 : Fld Try.prog 46 4 72 := ⟨⟨_, _, 0, Try.underlying46, rfl, by kernel_rfl, rfl⟩⟩
theorem fld71_0 : Fld Try.prog 71 0 0 := ⟨⟨_, _, 31, Try.underlying71, rfl, by kernel_rfl, rfl⟩⟩
theorem fld71_1 : Fld Try.prog 71 1 32 := ⟨⟨_, _, 33, Try.underlying71, rfl, by kernel_rfl, rfl⟩⟩
theorem eqE0 : EqV Try.prog 2 40 (32 * 1) (fun xs => xs.length = 32 * 1 ∧ ∀ i, i < 32 → ∃ n, (xs.drop (i * 1)).take 1 = [Value.int .u8 n]) agV := EqV.arr (n := 32) (EqV.int .u8 Try.underlying5 (by kernel_rfl)) Try.underlying40 (by kernel_rfl)
theorem eqE (x y : Ent) : EqW Try.prog 3 42 34 (eArr x) (eArr y) := ⟨_, EqV.struct' [(1, (fun xs => ∃ n, xs = [Value.int .i64 n])), (32 * 1, (fun xs => xs.length = 32 * 1 ∧ ∀ i, i < 32 → ∃ n, (xs.drop (i * 1)).take 1 = [Value.int .u8 n])), (1, (fun xs => ∃ n, xs = [Value.int .i64 n]))] Try.underlying42 (by kernel_rfl) (by kernel_rfl) ⟨by decide, ⟨hd1, (EqV.int .i64 Try.underlying3 (by kernel_rfl)).up⟩, by decide, ⟨agV, eqE0⟩, by decide, ⟨hd1, (EqV.int .i64 Try.underlying3 (by kernel_rfl)).up⟩, trivial⟩ ⟨rfl, rfl, rfl, rfl⟩, ⟨by rw [Array.length_toList, eArr_size], ⟨_, eArr_f0 _⟩, (by show _ ∧ _; unfold cutF; dsimp only; rw [eArr_f1]; exact bytesV _ _), ⟨_, eArr_f2 _⟩, trivial⟩, ⟨by rw [Array.length_toList, eArr_size], ⟨_, eArr_f0 _⟩, (by show _ ∧ _; unfold cutF; dsimp only; rw [eArr_f1]; exact bytesV _ _), ⟨_, eArr_f2 _⟩, trivial⟩⟩
theorem sttE : Stt Try.prog 42 eZ := ⟨⟨_, Try.underlying42, rfl, fun i f hf => by
  match i, hf with
  | 0, hf => cases hf; exact ⟨_, rfl, by kernel_rfl, rfl⟩
  | 1, hf => cases hf; exact ⟨_, rfl, by kernel_rfl, rfl⟩
  | 2, hf => cases hf; exact ⟨_, rfl, by kernel_rfl, rfl⟩
  | i + 3, hf => simp at hf⟩, by kernel_rfl⟩
theorem sttG : Stt Try.prog 44 tgZ := ⟨⟨_, Try.underlying44, rfl, fun i f hf => by
  match i, hf with
  | 0, hf => cases hf; exact ⟨_, rfl, by kernel_rfl, rfl⟩
  | 1, hf => cases hf; exact ⟨_, rfl, by kernel_rfl, rfl⟩
  | 2, hf => cases hf; exact ⟨_, rfl, by kernel_rfl, rfl⟩
  | i + 3, hf => simp at hf⟩, by kernel_rfl⟩
theorem eqG (x y : Tg) : EqW Try.prog 4 44 67 (tgArr x) (tgArr y) := by
  obtain ⟨V, E9, h1, h2⟩ := eqE x.2.1 y.2.1
  exact ⟨_, EqV.struct' [(32 * 1, (fun xs => xs.length = 32 * 1 ∧ ∀ i, i < 32 → ∃ n, (xs.drop (i * 1)).take 1 = [Value.int .u8 n])), (34, V), (1, (fun xs => ∃ n, xs = [Value.int .i64 n]))] Try.underlying44 (by kernel_rfl) (by kernel_rfl) ⟨by decide, ⟨agV, eqE0.up⟩, by decide, ⟨agV, E9⟩, by decide, ⟨hd1, (EqV.int .i64 Try.underlying3 (by kernel_rfl)).up.up⟩, trivial⟩ ⟨rfl, rfl, rfl, rfl⟩, ⟨by rw [Array.length_toList, tgArr_size], (by show _ ∧ _; unfold cutF; dsimp only; rw [tg_f0]; exact bytesV _ _), (by show V (cutF _ _ _); unfold cutF; dsimp only; rw [tg_f1]; exact h1), ⟨_, tg_f2 _⟩, trivial⟩, ⟨by rw [Array.length_toList, tgArr_size], (by show _ ∧ _; unfold cutF; dsimp only; rw [tg_f0]; exact bytesV _ _), (by show V (cutF _ _ _); unfold cutF; dsimp only; rw [tg_f1]; exact h2), ⟨_, tg_f2 _⟩, trivial⟩⟩
theorem sttP : Stt Try.prog 25 pkZ := ⟨⟨_, Try.underlying25, rfl, fun i f hf => by
  match i, hf with
  | 0, hf => cases hf; exact ⟨_, rfl, by kernel_rfl, rfl⟩
  | 1, hf => cases hf; exact ⟨_, rfl, by kernel_rfl, rfl⟩
  | 2, hf => cases hf; exact ⟨_, rfl, by kernel_rfl, rfl⟩
  | i + 3, hf => simp at hf⟩, by kernel_rfl⟩
theorem sttO : Stt Try.prog 46 otZ := ⟨⟨_, Try.underlying46, rfl, fun i f hf => by
  match i, hf with
  | 0, hf => cases hf; exact ⟨_, rfl, by kernel_rfl, rfl⟩
  | 1, hf => cases hf; exact ⟨_, rfl, by kernel_rfl, rfl⟩
  | 2, hf => cases hf; exact ⟨_, rfl, by kernel_rfl, rfl⟩
  | 3, hf => cases hf; exact ⟨_, rfl, by kernel_rfl, rfl⟩
  | 4, hf => cases hf; exact ⟨_, rfl, by kernel_rfl, rfl⟩
  | i + 5, hf => simp at hf⟩, by kernel_rfl⟩
theorem size5 : (Try.prog.info? 5).map (·.size) = some 1 := by kernel_rfl
theorem size69 : (Try.prog.info? 69).map (·.size) = some 1 := by kernel_rfl
theorem zero25 : (Try.prog.info? 25).bind (·.zero) = some (.agg (pkArr nilV 0 ByteArray.empty)) := by kernel_rfl
theorem zero42 : (Try.prog.info? 42).bind (·.zero) = some (.agg (eArr (0, 0#256, 0))) := by rw [eArr_zero]; kernel_rfl
theorem zero44 : (Try.prog.info? 44).bind (·.zero) = some (.agg (tgArr zTg)) := by rw [tg_zero]; kernel_rfl
theorem zero46 : (Try.prog.info? 46).bind (·.zero) = some (.agg (otArr 0 0 nilV 0 ByteArray.empty zTg 0)) := by rw [ot_zero]; kernel_rfl
theorem zero72 : (Try.prog.info? 72).bind (·.zero) = some (.agg #[.nilFunc, .nilFunc, .nilFunc, .nilFunc]) := by kernel_rfl
theorem fnc (n : Nat) (h : (match Try.prog.funcs[n]? with | some fn => !fn.body.isNone && !(fn.name == "runtime.NumGoroutine") | none => false) = true) : Fnc Try.prog n := by
  cases hf : Try.prog.funcs[n]? with
  | none => rw [hf] at h; simp at h
  | some fn => rw [hf] at h; simp only [Bool.and_eq_true, Bool.not_eq_true'] at h; exact ⟨⟨fn, hf, h.1, h.2⟩⟩
theorem elm23 : Elm Try.prog 23 1 24 := ⟨⟨_, _, rfl, rfl, by kernel_rfl, by kernel_rfl, by kernel_rfl⟩, by decide⟩
theorem elm42 : Elm Try.prog 42 34 48 := elm_of (by kernel_rfl) (by decide)
theorem elm44 : Elm Try.prog 44 67 88 := elm_of (by kernel_rfl) (by decide)
theorem elm46 : Elm Try.prog 46 73 160 := elm_of (by kernel_rfl) (by decide)
theorem fnc7 : Fnc Try.prog 7 := fnc 7 (by kernel_rfl)
theorem fnc8 : Fnc Try.prog 8 := fnc 8 (by kernel_rfl)
theorem fnc9 : Fnc Try.prog 9 := fnc 9 (by kernel_rfl)
theorem fnc10 : Fnc Try.prog 10 := fnc 10 (by kernel_rfl)
theorem fnc11 : Fnc Try.prog 11 := fnc 11 (by kernel_rfl)
theorem fnc12 : Fnc Try.prog 12 := fnc 12 (by kernel_rfl)
theorem fnc13 : Fnc Try.prog 13 := fnc 13 (by kernel_rfl)
theorem fnc14 : Fnc Try.prog 14 := fnc 14 (by kernel_rfl)
theorem fnc15 : Fnc Try.prog 15 := fnc 15 (by kernel_rfl)
theorem fnc16 : Fnc Try.prog 16 := fnc 16 (by kernel_rfl)
theorem fnc17 : Fnc Try.prog 17 := fnc 17 (by kernel_rfl)
theorem fnc18 : Fnc Try.prog 18 := fnc 18 (by kernel_rfl)
theorem fnc19 : Fnc Try.prog 19 := fnc 19 (by kernel_rfl)
theorem fnc20 : Fnc Try.prog 20 := fnc 20 (by kernel_rfl)
theorem fnc21 : Fnc Try.prog 21 := fnc 21 (by kernel_rfl)
theorem fnc22 : Fnc Try.prog 22 := fnc 22 (by kernel_rfl)
theorem fnc23 : Fnc Try.prog 23 := fnc 23 (by kernel_rfl)
theorem fnc24 : Fnc Try.prog 24 := fnc 24 (by kernel_rfl)
theorem fnc25 : Fnc Try.prog 25 := fnc 25 (by kernel_rfl)
theorem fnc26 : Fnc Try.prog 26 := fnc 26 (by kernel_rfl)
theorem fnc27 : Fnc Try.prog 27 := fnc 27 (by kernel_rfl)
theorem fnc28 : Fnc Try.prog 28 := fnc 28 (by kernel_rfl)
theorem fnc29 : Fnc Try.prog 29 := fnc 29 (by kernel_rfl)
theorem fnc30 : Fnc Try.prog 30 := fnc 30 (by kernel_rfl)
theorem fnc31 : Fnc Try.prog 31 := fnc 31 (by kernel_rfl)
theorem fnc32 : Fnc Try.prog 32 := fnc 32 (by kernel_rfl)
theorem fnc33 : Fnc Try.prog 33 := fnc 33 (by kernel_rfl)
theorem fnc34 : Fnc Try.prog 34 := fnc 34 (by kernel_rfl)
theorem fnc35 : Fnc Try.prog 35 := fnc 35 (by kernel_rfl)
theorem fnc36 : Fnc Try.prog 36 := fnc 36 (by kernel_rfl)
theorem fnc37 : Fnc Try.prog 37 := fnc 37 (by kernel_rfl)
theorem fnc38 : Fnc Try.prog 38 := fnc 38 (by kernel_rfl)
theorem fnc39 : Fnc Try.prog 39 := fnc 39 (by kernel_rfl)
theorem fnc40 : Fnc Try.prog 40 := fnc 40 (by kernel_rfl)
theorem fnc41 : Fnc Try.prog 41 := fnc 41 (by kernel_rfl)
theorem fnc42 : Fnc Try.prog 42 := fnc 42 (by kernel_rfl)
theorem fnc43 : Fnc Try.prog 43 := fnc 43 (by kernel_rfl)
theorem fnc44 : Fnc Try.prog 44 := fnc 44 (by kernel_rfl)
theorem fnc45 : Fnc Try.prog 45 := fnc 45 (by kernel_rfl)
theorem fnc46 : Fnc Try.prog 46 := fnc 46 (by kernel_rfl)
theorem fnc47 : Fnc Try.prog 47 := fnc 47 (by kernel_rfl)
theorem fnc48 : Fnc Try.prog 48 := fnc 48 (by kernel_rfl)
theorem fnc49 : Fnc Try.prog 49 := fnc 49 (by kernel_rfl)
theorem fnc50 : Fnc Try.prog 50 := fnc 50 (by kernel_rfl)
theorem fnc51 : Fnc Try.prog 51 := fnc 51 (by kernel_rfl)
theorem fnc52 : Fnc Try.prog 52 := fnc 52 (by kernel_rfl)
theorem fnc53 : Fnc Try.prog 53 := fnc 53 (by kernel_rfl)
theorem fnc54 : Fnc Try.prog 54 := fnc 54 (by kernel_rfl)
theorem fnc55 : Fnc Try.prog 55 := fnc 55 (by kernel_rfl)
theorem fnc56 : Fnc Try.prog 56 := fnc 56 (by kernel_rfl)
theorem fnc57 : Fnc Try.prog 57 := fnc 57 (by kernel_rfl)
theorem fnc58 : Fnc Try.prog 58 := fnc 58 (by kernel_rfl)
theorem fnc59 : Fnc Try.prog 59 := fnc 59 (by kernel_rfl)
theorem fnc60 : Fnc Try.prog 60 := fnc 60 (by kernel_rfl)
end Go.Proofs.Ythnmonfhanbghaa
