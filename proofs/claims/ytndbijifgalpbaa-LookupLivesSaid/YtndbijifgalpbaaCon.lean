/- What the walks want of the program: its types and functions by number; no condition. -/
import Derived.Test.YtndbijifgalpbaaProg
import Derived.KernelRfl
import Derived.Test.YtndbijifgalpbaaLk
namespace Go.Proofs.Ytndbijifgalpbaa
theorem idTy : IdTy Try.prog 26 5 := ⟨Try.underlying26, by kernel_rfl, Try.underlying5, by kernel_rfl, by rw [idV, idArr_zero]; kernel_rfl⟩
theorem row24 : Row Try.prog 24 1 := ⟨⟨_, Try.underlying24, rfl⟩, by kernel_rfl⟩
theorem row26 : Row Try.prog 26 32 := ⟨⟨_, Try.underlying26, rfl⟩, by kernel_rfl⟩
theorem row30 : Row Try.prog 30 33 := ⟨⟨_, Try.underlying30, rfl⟩, by kernel_rfl⟩
theorem row46 : Row Try.prog 46 68 := ⟨⟨_, Try.underlying46, rfl⟩, by kernel_rfl⟩
theorem row54 : Row Try.prog 54 34 := ⟨⟨_, Try.underlying54, rfl⟩, by kernel_rfl⟩
theorem one3 : One Try.prog 3 := ⟨⟨_, Try.underlying3, rfl⟩, by kernel_rfl⟩
theorem one4 : One Try.prog 4 := ⟨⟨_, Try.underlying4, rfl⟩, by kernel_rfl⟩
theorem one5 : One Try.prog 5 := ⟨⟨_, Try.underlying5, rfl⟩, by kernel_rfl⟩
theorem one22 : One Try.prog 22 := ⟨⟨_, Try.underlying22, rfl⟩, by kernel_rfl⟩
theorem one28 : One Try.prog 28 := ⟨⟨_, Try.underlying28, rfl⟩, by kernel_rfl⟩
theorem one31 : One Try.prog 31 := ⟨⟨_, Try.underlying31, rfl⟩, by kernel_rfl⟩
theorem one40 : One Try.prog 40 := ⟨⟨_, Try.underlying40, rfl⟩, by kernel_rfl⟩
theorem one56 : One Try.prog 56 := ⟨⟨_, Try.underlying56, rfl⟩, by kernel_rfl⟩
theorem one69 : One Try.prog 69 := ⟨⟨_, Try.underlying69, rfl⟩, by kernel_rfl⟩
theorem one90 : One Try.prog 90 := ⟨⟨_, Try.underlying90, rfl⟩, by kernel_rfl⟩
theorem one108 : One Try.prog 108 := ⟨⟨_, Try.underlying108, rfl⟩, by kernel_rfl⟩
theorem szo3 : (Try.prog.info? 3).map (·.size) = some 1 := by kernel_rfl
theorem szo30 : (Try.prog.info? 30).map (·.size) = some 33 := by kernel_rfl
theorem szo40 : (Try.prog.info? 40).map (·.size) = some 1 := by kernel_rfl
theorem szo46 : (Try.prog.info? 46).map (·.size) = some 68 := by kernel_rfl
theorem fld24_0 : Fld Try.prog 24 0 0 := ⟨⟨_, _, 0, Try.underlying24, rfl, by kernel_rfl, rfl⟩⟩
theorem fld30_0 : Fld Try.prog 30 0 0 := ⟨⟨_, _, 0, Try.underlying30, rfl, by kernel_rfl, rfl⟩⟩
theorem fld30_1 : Fld Try.prog 30 1 1 := ⟨⟨_, _, 31, Try.underlying30, rfl, by kernel_rfl, rfl⟩⟩
theorem fld46_0 : Fld Try.prog 46 0 0 := ⟨⟨_, _, 32, Try.underlying46, rfl, by kernel_rfl, rfl⟩⟩
theorem fld46_1 : Fld Try.prog 46 1 33 := ⟨⟨_, _, 32, Try.underlying46, rfl, by kernel_rfl, rfl⟩⟩
theorem fld46_2 : Fld Try.prog 46 2 66 := ⟨⟨_, _, 0, Try.underlying46, rfl, by kernel_rfl, rfl⟩⟩
theorem fld46_3 : Fld Try.prog 46 3 67 := ⟨⟨_, _, 0, Try.underlying46, rfl, by kernel_rfl, rfl⟩⟩
theorem fld54_0 : Fld Try.prog 54 0 0 := ⟨⟨_, _, 32, Try.underlying54, rfl, by kernel_rfl, rfl⟩⟩
theorem fld54_1 : Fld Try.prog 54 1 33 := ⟨⟨_, _, 0, Try.underlying54, rfl, by kernel_rfl, rfl⟩⟩
theorem eqM0 : EqV Try.prog 2 26 (32 * 1) (fun xs => xs.length = 32 * 1 ∧ ∀ i, i < 32 → ∃ n, (xs.drop (i * 1)).take 1 = [Value.int .u8 n]) agV := EqV.arr (n := 32) (EqV.int .u8 Try.underlying5 (by kernel_rfl)) Try.underlying26 (by kernel_rfl)
theorem eqM (x y : Mb) : EqW Try.prog 3 30 33 (mbArr x) (mbArr y) := ⟨_, EqV.struct' [(1, (fun xs => ∃ n, xs = [Value.int .i64 n])), (32 * 1, (fun xs => xs.length = 32 * 1 ∧ ∀ i, i < 32 → ∃ n, (xs.drop (i * 1)).take 1 = [Value.int .u8 n]))] Try.underlying30 (by kernel_rfl) (by kernel_rfl) ⟨by decide, ⟨hd1, (EqV.int .i64 Try.underlying3 (by kernel_rfl)).up⟩, by decide, ⟨agV, eqM0⟩, trivial⟩ ⟨rfl, rfl, rfl⟩, ⟨by rw [Array.length_toList, mbArr_size], ⟨_, mbArr_f0 _⟩, (by show _ ∧ _; unfold cutF; dsimp only; rw [mbArr_f1]; exact bytesV _ _), trivial⟩, ⟨by rw [Array.length_toList, mbArr_size], ⟨_, mbArr_f0 _⟩, (by show _ ∧ _; unfold cutF; dsimp only; rw [mbArr_f1]; exact bytesV _ _), trivial⟩⟩
theorem sttM : Stt Try.prog 30 mbZ := ⟨⟨_, Try.underlying30, rfl, fun i f hf => by
  match i, hf with
  | 0, hf => cases hf; exact ⟨_, rfl, by kernel_rfl, rfl⟩
  | 1, hf => cases hf; exact ⟨_, rfl, by kernel_rfl, rfl⟩
  | i + 2, hf => simp at hf⟩, by kernel_rfl⟩
theorem sttN : Stt Try.prog 46 ndZ := ⟨⟨_, Try.underlying46, rfl, fun i f hf => by
  match i, hf with
  | 0, hf => cases hf; exact ⟨_, rfl, by kernel_rfl, rfl⟩
  | 1, hf => cases hf; exact ⟨_, rfl, by kernel_rfl, rfl⟩
  | 2, hf => cases hf; exact ⟨_, rfl, by kernel_rfl, rfl⟩
  | 3, hf => cases hf; exact ⟨_, rfl, by kernel_rfl, rfl⟩
  | i + 4, hf => simp at hf⟩, by kernel_rfl⟩
theorem sttO : Stt Try.prog 24 ovZ := ⟨⟨_, Try.underlying24, rfl, fun i f hf => by
  match i, hf with
  | 0, hf => cases hf; exact ⟨_, rfl, by kernel_rfl, rfl⟩
  | i + 1, hf => simp at hf⟩, by kernel_rfl⟩
theorem sttA : Stt Try.prog 54 nnZ := ⟨⟨_, Try.underlying54, rfl, fun i f hf => by
  match i, hf with
  | 0, hf => cases hf; exact ⟨_, rfl, by kernel_rfl, rfl⟩
  | 1, hf => cases hf; exact ⟨_, rfl, by kernel_rfl, rfl⟩
  | i + 2, hf => simp at hf⟩, by kernel_rfl⟩
theorem eqA (x y : Mb) (p q : Bool) : EqW Try.prog 4 54 34 (nnArr x p) (nnArr y q) := by
  obtain ⟨V, E, h1, h2⟩ := eqM x y
  exact ⟨_, EqV.struct' [(33, V), (1, fun xs => ∃ n, xs = [Value.bool n])] Try.underlying54 (by kernel_rfl) (by kernel_rfl) ⟨by decide, ⟨agV, E⟩, by decide, ⟨hd1, (EqV.bool Try.underlying4 (by kernel_rfl)).up.up⟩, trivial⟩ ⟨rfl, rfl, rfl⟩, ⟨by rw [Array.length_toList, nnArr_size], (by show V (cutF _ _ _); unfold cutF; dsimp only; rw [nn_f0]; exact h1), (by show ∃ n, cutF _ _ _ = _; unfold cutF; dsimp only; rw [nn_f1]; exact ⟨_, rfl⟩), trivial⟩, ⟨by rw [Array.length_toList, nnArr_size], (by show V (cutF _ _ _); unfold cutF; dsimp only; rw [nn_f0]; exact h2), (by show ∃ n, cutF _ _ _ = _; unfold cutF; dsimp only; rw [nn_f1]; exact ⟨_, rfl⟩), trivial⟩⟩
theorem size5 : (Try.prog.info? 5).map (·.size) = some 1 := by kernel_rfl
theorem zero4 : (Try.prog.info? 4).bind (·.zero) = some (.bool false) := by kernel_rfl
theorem zero24 : (Try.prog.info? 24).bind (·.zero) = some (.agg #[nilV]) := by kernel_rfl
theorem zero26 : (Try.prog.info? 26).bind (·.zero) = some (idV 0#256) := idTy.zero
theorem zero28 : (Try.prog.info? 28).bind (·.zero) = some (.slice none 0 0) := by kernel_rfl
theorem zero30 : (Try.prog.info? 30).bind (·.zero) = some (.agg (mbArr zMb)) := by rw [mb_zero]; kernel_rfl
theorem zero31 : (Try.prog.info? 31).bind (·.zero) = some (.int .i64 0) := by kernel_rfl
theorem zero40 : (Try.prog.info? 40).bind (·.zero) = some (.slice none 0 0) := by kernel_rfl
theorem zero46 : (Try.prog.info? 46).bind (·.zero) = some (.agg (ndArr zMb zMb nilV nilV)) := by rw [nd_zero]; kernel_rfl
theorem zero54 : (Try.prog.info? 54).bind (·.zero) = some (.agg (nnArr zMb false)) := by rw [nn_zero]; kernel_rfl
theorem zero69 : (Try.prog.info? 69).bind (·.zero) = some (.pointer none) := by kernel_rfl
theorem fnc (n : Nat) (h : (match Try.prog.funcs[n]? with | some fn => !fn.body.isNone && !(fn.name == "runtime.NumGoroutine") | none => false) = true) : Fnc Try.prog n := by
  cases hf : Try.prog.funcs[n]? with
  | none => rw [hf] at h; simp at h
  | some fn => rw [hf] at h; simp only [Bool.and_eq_true, Bool.not_eq_true'] at h; exact ⟨⟨fn, hf, h.1, h.2⟩⟩
theorem elm3 : Elm Try.prog 3 1 8 := elm_of (by kernel_rfl) (by decide)
theorem elm30 : Elm Try.prog 30 33 40 := elm_of (by kernel_rfl) (by decide)
theorem elm40 : Elm Try.prog 40 1 24 := elm_of (by kernel_rfl) (by decide)
theorem elm46 : Elm Try.prog 46 68 128 := elm_of (by kernel_rfl) (by decide)
theorem fnc7 : Fnc Try.prog 7 := fnc 7 (by kernel_rfl)
theorem fnc8 : Fnc Try.prog 8 := fnc 8 (by kernel_rfl)
theorem fnc10 : Fnc Try.prog 10 := fnc 10 (by kernel_rfl)
theorem fnc13 : Fnc Try.prog 13 := fnc 13 (by kernel_rfl)
theorem fnc15 : Fnc Try.prog 15 := fnc 15 (by kernel_rfl)
theorem fnc16 : Fnc Try.prog 16 := fnc 16 (by kernel_rfl)
theorem fnc17 : Fnc Try.prog 17 := fnc 17 (by kernel_rfl)
theorem fnc18 : Fnc Try.prog 18 := fnc 18 (by kernel_rfl)
theorem fnc19 : Fnc Try.prog 19 := fnc 19 (by kernel_rfl)
theorem fnc20 : Fnc Try.prog 20 := fnc 20 (by kernel_rfl)
theorem fnc21 : Fnc Try.prog 21 := fnc 21 (by kernel_rfl)
theorem fnc29 : Fnc Try.prog 29 := fnc 29 (by kernel_rfl)
theorem fnc32 : Fnc Try.prog 32 := fnc 32 (by kernel_rfl)
theorem fnc35 : Fnc Try.prog 35 := fnc 35 (by kernel_rfl)
theorem fnc36 : Fnc Try.prog 36 := fnc 36 (by kernel_rfl)
theorem fnc37 : Fnc Try.prog 37 := fnc 37 (by kernel_rfl)
theorem fnc38 : Fnc Try.prog 38 := fnc 38 (by kernel_rfl)
theorem fnc39 : Fnc Try.prog 39 := fnc 39 (by kernel_rfl)
theorem fnc40 : Fnc Try.prog 40 := fnc 40 (by kernel_rfl)
theorem fnc41 : Fnc Try.prog 41 := fnc 41 (by kernel_rfl)
theorem fnc42 : Fnc Try.prog 42 := fnc 42 (by kernel_rfl)
theorem fnc43 : Fnc Try.prog 43 := fnc 43 (by kernel_rfl)
theorem fnc44 : Fnc Try.prog 44 := fnc 44 (by kernel_rfl)
theorem fnc45 : Fnc Try.prog 45 := fnc 45 (by kernel_rfl)
theorem fnc46 : Fnc Try.prog 46 := fnc 46 (by kernel_rfl)
theorem fnc47 : Fnc Try.prog 47 := fnc 47 (by kernel_rfl)
theorem fnc48 : Fnc Try.prog 48 := fnc 48 (by kernel_rfl)
theorem fnc55 : Fnc Try.prog 55 := fnc 55 (by kernel_rfl)
theorem fnc59 : Fnc Try.prog 59 := fnc 59 (by kernel_rfl)
theorem fnc60 : Fnc Try.prog 60 := fnc 60 (by kernel_rfl)
theorem fnc62 : Fnc Try.prog 62 := fnc 62 (by kernel_rfl)
theorem fnc63 : Fnc Try.prog 63 := fnc 63 (by kernel_rfl)
theorem fnc64 : Fnc Try.prog 64 := fnc 64 (by kernel_rfl)
theorem fnc65 : Fnc Try.prog 65 := fnc 65 (by kernel_rfl)
theorem fnc66 : Fnc Try.prog 66 := fnc 66 (by kernel_rfl)
theorem fnc67 : Fnc Try.prog 67 := fnc 67 (by kernel_rfl)
theorem fnc68 : Fnc Try.prog 68 := fnc 68 (by kernel_rfl)
theorem fnc69 : Fnc Try.prog 69 := fnc 69 (by kernel_rfl)
theorem fnc70 : Fnc Try.prog 70 := fnc 70 (by kernel_rfl)
theorem fnc71 : Fnc Try.prog 71 := fnc 71 (by kernel_rfl)
theorem fnc72 : Fnc Try.prog 72 := fnc 72 (by kernel_rfl)
theorem fnc73 : Fnc Try.prog 73 := fnc 73 (by kernel_rfl)
theorem fnc74 : Fnc Try.prog 74 := fnc 74 (by kernel_rfl)
theorem fnc75 : Fnc Try.prog 75 := fnc 75 (by kernel_rfl)
theorem fnc76 : Fnc Try.prog 76 := fnc 76 (by kernel_rfl)
theorem fnc77 : Fnc Try.prog 77 := fnc 77 (by kernel_rfl)
theorem fnc78 : Fnc Try.prog 78 := fnc 78 (by kernel_rfl)
theorem fnc79 : Fnc Try.prog 79 := fnc 79 (by kernel_rfl)
theorem fnc86 : Fnc Try.prog 86 := fnc 86 (by kernel_rfl)
theorem fnc87 : Fnc Try.prog 87 := fnc 87 (by kernel_rfl)
theorem fnc88 : Fnc Try.prog 88 := fnc 88 (by kernel_rfl)
theorem fnc89 : Fnc Try.prog 89 := fnc 89 (by kernel_rfl)
theorem fnc90 : Fnc Try.prog 90 := fnc 90 (by kernel_rfl)
theorem fnc91 : Fnc Try.prog 91 := fnc 91 (by kernel_rfl)
theorem fnc92 : Fnc Try.prog 92 := fnc 92 (by kernel_rfl)
theorem fnc93 : Fnc Try.prog 93 := fnc 93 (by kernel_rfl)
theorem fnc94 : Fnc Try.prog 94 := fnc 94 (by kernel_rfl)
theorem fnc95 : Fnc Try.prog 95 := fnc 95 (by kernel_rfl)
theorem fnc99 : Fnc Try.prog 99 := fnc 99 (by kernel_rfl)
theorem fnc100 : Fnc Try.prog 100 := fnc 100 (by kernel_rfl)
theorem fnc101 : Fnc Try.prog 101 := fnc 101 (by kernel_rfl)
theorem fnc104 : Fnc Try.prog 104 := fnc 104 (by kernel_rfl)
end Go.Proofs.Ytndbijifgalpbaa
