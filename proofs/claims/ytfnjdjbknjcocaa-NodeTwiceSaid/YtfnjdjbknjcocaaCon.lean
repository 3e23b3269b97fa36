/- What the walks want of the program: its types and functions by number; no condition. -/
import Derived.Test.YtfnjdjbknjcocaaProg
import Derived.KernelRfl
import Derived.Test.YtfnjdjbknjcocaaNd
namespace Go.Proofs.Ytfnjdjbknjcocaa
theorem idTy : IdTy Try.prog 23 5 := ⟨Try.underlying23, by kernel_rfl, Try.underlying5, by kernel_rfl, by rw [idV, idArr_zero]; kernel_rfl⟩
theorem row23 : Row Try.prog 23 32 := ⟨⟨_, Try.underlying23, rfl⟩, by kernel_rfl⟩
theorem row25 : Row Try.prog 25 33 := ⟨⟨_, Try.underlying25, rfl⟩, by kernel_rfl⟩
theorem row28 : Row Try.prog 28 68 := ⟨⟨_, Try.underlying28, rfl⟩, by kernel_rfl⟩
theorem row42 : Row Try.prog 42 34 := ⟨⟨_, Try.underlying42, rfl⟩, by kernel_rfl⟩
theorem one3 : One Try.prog 3 := ⟨⟨_, Try.underlying3, rfl⟩, by kernel_rfl⟩
theorem one4 : One Try.prog 4 := ⟨⟨_, Try.underlying4, rfl⟩, by kernel_rfl⟩
theorem one5 : One Try.prog 5 := ⟨⟨_, Try.underlying5, rfl⟩, by kernel_rfl⟩
theorem one26 : One Try.prog 26 := ⟨⟨_, Try.underlying26, rfl⟩, by kernel_rfl⟩
theorem one30 : One Try.prog 30 := ⟨⟨_, Try.underlying30, rfl⟩, by kernel_rfl⟩
theorem one35 : One Try.prog 35 := ⟨⟨_, Try.underlying35, rfl⟩, by kernel_rfl⟩
theorem one50 : One Try.prog 50 := ⟨⟨_, Try.underlying50, rfl⟩, by kernel_rfl⟩
theorem one72 : One Try.prog 72 := ⟨⟨_, Try.underlying72, rfl⟩, by kernel_rfl⟩
theorem szo3 : (Try.prog.info? 3).map (·.size) = some 1 := by kernel_rfl
theorem szo25 : (Try.prog.info? 25).map (·.size) = some 33 := by kernel_rfl
theorem szo26 : (Try.prog.info? 26).map (·.size) = some 1 := by kernel_rfl
theorem szo28 : (Try.prog.info? 28).map (·.size) = some 68 := by kernel_rfl
theorem szo30 : (Try.prog.info? 30).map (·.size) = some 1 := by kernel_rfl
theorem fld25_0 : Fld Try.prog 25 0 0 := ⟨⟨_, _, 0, Try.underlying25, rfl, by kernel_rfl, rfl⟩⟩
theorem fld25_1 : Fld Try.prog 25 1 1 := ⟨⟨_, _, 31, Try.underlying25, rfl, by kernel_rfl, rfl⟩⟩
theorem fld28_0 : Fld Try.prog 28 0 0 := ⟨⟨_, _, 32, Try.underlying28, rfl, by kernel_rfl, rfl⟩⟩
theorem fld28_1 : Fld Try.prog 28 1 33 := ⟨⟨_, _, 32, Try.underlying28, rfl, by kernel_rfl, rfl⟩⟩
theorem fld28_2 : Fld Try.prog 28 2 66 := ⟨⟨_, _, 0, Try.underlying28, rfl, by kernel_rfl, rfl⟩⟩
theorem fld28_3 : Fld Try.prog 28 3 67 := ⟨⟨_, _, 0, Try.underlying28, rfl, by kernel_rfl, rfl⟩⟩
theorem fld42_0 : Fld Try.prog 42 0 0 := ⟨⟨_, _, 32, Try.underlying42, rfl, by kernel_rfl, rfl⟩⟩
theorem fld42_1 : Fld Try.prog 42 1 33 := ⟨⟨_, _, 0, Try.underlying42, rfl, by kernel_rfl, rfl⟩⟩
theorem flt25_0 : FldT Try.prog 25 0 0 3 := ⟨⟨_, _, Try.underlying25, rfl, rfl, rfl⟩⟩
theorem eqM0 : EqV Try.prog 2 23 (32 * 1) (fun xs => xs.length = 32 * 1 ∧ ∀ i, i < 32 → ∃ n, (xs.drop (i * 1)).take 1 = [Value.int .u8 n]) agV := EqV.arr (n := 32) (EqV.int .u8 Try.underlying5 (by kernel_rfl)) Try.underlying23 (by kernel_rfl)
theorem eqM (x y : Mb) : EqW Try.prog 3 25 33 (mbArr x) (mbArr y) := ⟨_, EqV.struct' [(1, (fun xs => ∃ n, xs = [Value.int .i64 n])), (32 * 1, (fun xs => xs.length = 32 * 1 ∧ ∀ i, i < 32 → ∃ n, (xs.drop (i * 1)).take 1 = [Value.int .u8 n]))] Try.underlying25 (by kernel_rfl) (by kernel_rfl) ⟨by decide, ⟨hd1, (EqV.int .i64 Try.underlying3 (by kernel_rfl)).up⟩, by decide, ⟨agV, eqM0⟩, trivial⟩ ⟨rfl, rfl, rfl⟩, ⟨by rw [Array.length_toList, mbArr_size], ⟨_, mbArr_f0 _⟩, (by show _ ∧ _; unfold cutF; dsimp only; rw [mbArr_f1]; exact bytesV _ _), trivial⟩, ⟨by rw [Array.length_toList, mbArr_size], ⟨_, mbArr_f0 _⟩, (by show _ ∧ _; unfold cutF; dsimp only; rw [mbArr_f1]; exact bytesV _ _), trivial⟩⟩
theorem sttM : Stt Try.prog 25 mbZ := ⟨⟨_, Try.underlying25, rfl, fun i f hf => by
  match i, hf with
  | 0, hf => cases hf; exact ⟨_, rfl, by kernel_rfl, rfl⟩
  | 1, hf => cases hf; exact ⟨_, rfl, by kernel_rfl, rfl⟩
  | i + 2, hf => simp at hf⟩, by kernel_rfl⟩
theorem sttN : Stt Try.prog 28 ndZ := ⟨⟨_, Try.underlying28, rfl, fun i f hf => by
  match i, hf with
  | 0, hf => cases hf; exact ⟨_, rfl, by kernel_rfl, rfl⟩
  | 1, hf => cases hf; exact ⟨_, rfl, by kernel_rfl, rfl⟩
  | 2, hf => cases hf; exact ⟨_, rfl, by kernel_rfl, rfl⟩
  | 3, hf => cases hf; exact ⟨_, rfl, by kernel_rfl, rfl⟩
  | i + 4, hf => simp at hf⟩, by kernel_rfl⟩
theorem sttK : Stt Try.prog 42 nnZ := ⟨⟨_, Try.underlying42, rfl, fun i f hf => by
  match i, hf with
  | 0, hf => cases hf; exact ⟨_, rfl, by kernel_rfl, rfl⟩
  | 1, hf => cases hf; exact ⟨_, rfl, by kernel_rfl, rfl⟩
  | i + 2, hf => simp at hf⟩, by kernel_rfl⟩
theorem size5 : (Try.prog.info? 5).map (·.size) = some 1 := by kernel_rfl
theorem zero23 : (Try.prog.info? 23).bind (·.zero) = some (idV 0#256) := idTy.zero
theorem zero25 : (Try.prog.info? 25).bind (·.zero) = some (.agg (mbArr zMb)) := by rw [mb_zero]; kernel_rfl
theorem zero26 : (Try.prog.info? 26).bind (·.zero) = some (.slice none 0 0) := by kernel_rfl
theorem zero28 : (Try.prog.info? 28).bind (·.zero) = some (.agg (ndArr zMb zMb nilV nilV)) := by rw [nd_zero]; kernel_rfl
theorem zero42 : (Try.prog.info? 42).bind (·.zero) = some (.agg (nnArr zMb false)) := by rw [nn_zero]; kernel_rfl
theorem fnc (n : Nat) (h : (match Try.prog.funcs[n]? with | some fn => !fn.body.isNone && !(fn.name == "runtime.NumGoroutine") | none => false) = true) : Fnc Try.prog n := by
  cases hf : Try.prog.funcs[n]? with
  | none => rw [hf] at h; simp at h
  | some fn => rw [hf] at h; simp only [Bool.and_eq_true, Bool.not_eq_true'] at h; exact ⟨⟨fn, hf, h.1, h.2⟩⟩
theorem elm25 : Elm Try.prog 25 33 40 := ⟨⟨_, _, rfl, rfl, by kernel_rfl, by kernel_rfl, by kernel_rfl⟩, by decide⟩
theorem elm26 : Elm Try.prog 26 1 24 := ⟨⟨_, _, rfl, rfl, by kernel_rfl, by kernel_rfl, by kernel_rfl⟩, by decide⟩
theorem elm28 : Elm Try.prog 28 68 128 := ⟨⟨_, _, rfl, rfl, by kernel_rfl, by kernel_rfl, by kernel_rfl⟩, by decide⟩
theorem elm30 : Elm Try.prog 30 1 8 := ⟨⟨_, _, rfl, rfl, by kernel_rfl, by kernel_rfl, by kernel_rfl⟩, by decide⟩
theorem fnc9 : Fnc Try.prog 9 := fnc 9 (by kernel_rfl)
theorem fnc10 : Fnc Try.prog 10 := fnc 10 (by kernel_rfl)
theorem fnc11 : Fnc Try.prog 11 := fnc 11 (by kernel_rfl)
theorem fnc12 : Fnc Try.prog 12 := fnc 12 (by kernel_rfl)
theorem fnc13 : Fnc Try.prog 13 := fnc 13 (by kernel_rfl)
theorem fnc14 : Fnc Try.prog 14 := fnc 14 (by kernel_rfl)
theorem fnc15 : Fnc Try.prog 15 := fnc 15 (by kernel_rfl)
theorem fnc16 : Fnc Try.prog 16 := fnc 16 (by kernel_rfl)
theorem fnc17 : Fnc Try.prog 17 := fnc 17 (by kernel_rfl)
theorem fnc18 : Fnc Try.prog 18 := fnc 18 (by kernel_rfl)
theorem fnc19 : Fnc Try.prog 19 := fnc 19 (by kernel_rfl)
theorem fnc20 : Fnc Try.prog 20 := fnc 20 (by kernel_rfl)
theorem fnc21 : Fnc Try.prog 21 := fnc 21 (by kernel_rfl)
theorem fnc22 : Fnc Try.prog 22 := fnc 22 (by kernel_rfl)
theorem fnc23 : Fnc Try.prog 23 := fnc 23 (by kernel_rfl)
theorem fnc24 : Fnc Try.prog 24 := fnc 24 (by kernel_rfl)
theorem fnc25 : Fnc Try.prog 25 := fnc 25 (by kernel_rfl)
theorem fnc26 : Fnc Try.prog 26 := fnc 26 (by kernel_rfl)
theorem fnc27 : Fnc Try.prog 27 := fnc 27 (by kernel_rfl)
theorem fnc28 : Fnc Try.prog 28 := fnc 28 (by kernel_rfl)
theorem fnc29 : Fnc Try.prog 29 := fnc 29 (by kernel_rfl)
theorem fnc30 : Fnc Try.prog 30 := fnc 30 (by kernel_rfl)
theorem fnc31 : Fnc Try.prog 31 := fnc 31 (by kernel_rfl)
theorem fnc32 : Fnc Try.prog 32 := fnc 32 (by kernel_rfl)
theorem fnc33 : Fnc Try.prog 33 := fnc 33 (by kernel_rfl)
theorem fnc34 : Fnc Try.prog 34 := fnc 34 (by kernel_rfl)
theorem fnc35 : Fnc Try.prog 35 := fnc 35 (by kernel_rfl)
theorem fnc36 : Fnc Try.prog 36 := fnc 36 (by kernel_rfl)
theorem fnc37 : Fnc Try.prog 37 := fnc 37 (by kernel_rfl)
theorem fnc38 : Fnc Try.prog 38 := fnc 38 (by kernel_rfl)
theorem fnc39 : Fnc Try.prog 39 := fnc 39 (by kernel_rfl)
theorem fnc40 : Fnc Try.prog 40 := fnc 40 (by kernel_rfl)
theorem fnc41 : Fnc Try.prog 41 := fnc 41 (by kernel_rfl)
theorem fnc42 : Fnc Try.prog 42 := fnc 42 (by kernel_rfl)
theorem fnc43 : Fnc Try.prog 43 := fnc 43 (by kernel_rfl)
theorem fnc44 : Fnc Try.prog 44 := fnc 44 (by kernel_rfl)
theorem fnc45 : Fnc Try.prog 45 := fnc 45 (by kernel_rfl)
theorem fnc46 : Fnc Try.prog 46 := fnc 46 (by kernel_rfl)
theorem fnc47 : Fnc Try.prog 47 := fnc 47 (by kernel_rfl)
theorem fnc48 : Fnc Try.prog 48 := fnc 48 (by kernel_rfl)
theorem fnc49 : Fnc Try.prog 49 := fnc 49 (by kernel_rfl)
theorem fnc50 : Fnc Try.prog 50 := fnc 50 (by kernel_rfl)
theorem fnc51 : Fnc Try.prog 51 := fnc 51 (by kernel_rfl)
theorem fnc52 : Fnc Try.prog 52 := fnc 52 (by kernel_rfl)
theorem fnc53 : Fnc Try.prog 53 := fnc 53 (by kernel_rfl)
theorem fnc54 : Fnc Try.prog 54 := fnc 54 (by kernel_rfl)
theorem fnc55 : Fnc Try.prog 55 := fnc 55 (by kernel_rfl)
theorem fnc56 : Fnc Try.prog 56 := fnc 56 (by kernel_rfl)
theorem fnc57 : Fnc Try.prog 57 := fnc 57 (by kernel_rfl)
theorem fnc58 : Fnc Try.prog 58 := fnc 58 (by kernel_rfl)
theorem fnc59 : Fnc Try.prog 59 := fnc 59 (by kernel_rfl)
theorem fnc60 : Fnc Try.prog 60 := fnc 60 (by kernel_rfl)
theorem fnc61 : Fnc Try.prog 61 := fnc 61 (by kernel_rfl)
theorem fnc62 : Fnc Try.prog 62 := fnc 62 (by kernel_rfl)
theorem fnc63 : Fnc Try.prog 63 := fnc 63 (by kernel_rfl)
theorem fnc64 : Fnc Try.prog 64 := fnc 64 (by kernel_rfl)
theorem fnc65 : Fnc Try.prog 65 := fnc 65 (by kernel_rfl)
theorem fnc66 : Fnc Try.prog 66 := fnc 66 (by kernel_rfl)
theorem fnc67 : Fnc Try.prog 67 := fnc 67 (by kernel_rfl)
theorem fnc68 : Fnc Try.prog 68 := fnc 68 (by kernel_rfl)
theorem fnc69 : Fnc Try.prog 69 := fnc 69 (by kernel_rfl)
end Go.Proofs.Ytfnjdjbknjcocaa
