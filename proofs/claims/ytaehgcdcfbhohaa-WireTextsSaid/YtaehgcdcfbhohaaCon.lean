/- What the walks want of the program: its types and functions by number; no condition. -/
import Derived.Test.YtaehgcdcfbhohaaProg
import Derived.KernelRfl
import Derived.Test.YtaehgcdcfbhohaaWr
namespace Go.Proofs.Ytaehgcdcfbhohaa
theorem idTy : IdTy Try.prog 23 5 := ⟨Try.underlying23, by kernel_rfl, Try.underlying5, by kernel_rfl, by rw [idV, idArr_zero]; kernel_rfl⟩
theorem row23 : Row Try.prog 23 32 := ⟨⟨_, Try.underlying23, rfl⟩, by kernel_rfl⟩
theorem row25 : Row Try.prog 25 34 := ⟨⟨_, Try.underlying25, rfl⟩, by kernel_rfl⟩
theorem row28 : Row Try.prog 28 71 := ⟨⟨_, Try.underlying28, rfl⟩, by kernel_rfl⟩
theorem row44 : Row Try.prog 44 6 := ⟨⟨_, Try.underlying44, rfl⟩, by kernel_rfl⟩
theorem row58 : Row Try.prog 58 1 := ⟨⟨_, Try.underlying58, rfl⟩, by kernel_rfl⟩
theorem row65 : Row Try.prog 65 73 := ⟨⟨_, Try.underlying65, rfl⟩, by kernel_rfl⟩
theorem row77 : Row Try.prog 77 3 := ⟨⟨_, Try.underlying77, rfl⟩, by kernel_rfl⟩
theorem one3 : One Try.prog 3 := ⟨⟨_, Try.underlying3, rfl⟩, by kernel_rfl⟩
theorem one4 : One Try.prog 4 := ⟨⟨_, Try.underlying4, rfl⟩, by kernel_rfl⟩
theorem one5 : One Try.prog 5 := ⟨⟨_, Try.underlying5, rfl⟩, by kernel_rfl⟩
theorem one9 : One Try.prog 9 := ⟨⟨_, Try.underlying9, rfl⟩, by kernel_rfl⟩
theorem one26 : One Try.prog 26 := ⟨⟨_, Try.underlying26, rfl⟩, by kernel_rfl⟩
theorem one30 : One Try.prog 30 := ⟨⟨_, Try.underlying30, rfl⟩, by kernel_rfl⟩
theorem szo5 : (Try.prog.info? 5).map (·.size) = some 1 := by kernel_rfl
theorem szo9 : (Try.prog.info? 9).map (·.size) = some 1 := by kernel_rfl
theorem szo25 : (Try.prog.info? 25).map (·.size) = some 34 := by kernel_rfl
theorem fld25_0 : Fld Try.prog 25 0 0 := ⟨⟨_, _, 0, Try.underlying25, rfl, by kernel_rfl, rfl⟩⟩
theorem fld25_1 : Fld Try.prog 25 1 1 := ⟨⟨_, _, 31, Try.underlying25, rfl, by kernel_rfl, rfl⟩⟩
theorem fld25_2 : Fld Try.prog 25 2 33 := ⟨⟨_, _, 0, Try.underlying25, rfl, by kernel_rfl, rfl⟩⟩
theorem fld28_0 : Fld Try.prog 28 0 0 := ⟨⟨_, _, 0, Try.underlying28, rfl, by kernel_rfl, rfl⟩⟩
theorem fld28_1 : Fld Try.prog 28 1 1 := ⟨⟨_, _, 31, Try.underlying28, rfl, by kernel_rfl, rfl⟩⟩
theorem fld28_2 : Fld Try.prog 28 2 33 := ⟨⟨_, _, 33, Try.underlying28, rfl, by kernel_rfl, rfl⟩⟩
theorem fld28_3 : Fld Try.prog 28 3 67 := ⟨⟨_, _, 0, Try.underlying28, rfl, by kernel_rfl, rfl⟩⟩
theorem fld28_4 : Fld Try.prog 28 4 68 := ⟨⟨_, _, 0, Try.underlying28, rfl, by kernel_rfl, rfl⟩⟩
theorem fld28_5 : Fld Try.prog 28 5 69 := ⟨⟨_, _, 0, Try.underlying28, rfl, by kernel_rfl, rfl⟩⟩
theorem fld28_6 : Fld Try.prog 28 6 70 := ⟨⟨_, _, 0, Try.underlying28, rfl, by kernel_rfl, rfl⟩⟩
theorem fld44_0 : Fld Try.prog 44 0 0 := ⟨⟨_, _, 0, Try.underlying44, rfl, by kernel_rfl, rfl⟩⟩
theorem fld44_1 : Fld Try.prog 44 1 1 := ⟨⟨_, _, 0, Try.underlying44, rfl, by kernel_rfl, rfl⟩⟩
theorem fld44_2 : Fld Try.prog 44 2 2 := ⟨⟨_, _, 0, Try.underlying44, rfl, by kernel_rfl, rfl⟩⟩
theorem fld44_3 : Fld Try.prog 44 3 3 := ⟨⟨_, _, 0, Try.underlying44, rfl, by kernel_rfl, rfl⟩⟩
theorem fld44_4 : Fld Try.prog 44 4 4 := ⟨⟨_, _, 0, Try.underlying44, rfl, by kernel_rfl, rfl⟩⟩
theorem fld44_5 : Fld Try.prog 44 5 5 := ⟨⟨_, _, 0, Try.underlying44, rfl, by kernel_rfl, rfl⟩⟩
theorem fld58_0 : Fld Try.prog 58 0 0 := ⟨⟨_, _, 0, Try.underlying58, rfl, by kernel_rfl, rfl⟩⟩
theorem fld65_0 : Fld Try.prog 65 0 0 := ⟨⟨_, _, 70, Try.underlying65, rfl, by kernel_rfl, rfl⟩⟩
theorem fld65_1 : Fld Try.prog 65 1 71 := ⟨⟨_, _, 0, Try.underlying65, rfl, by kernel_rfl, rfl⟩⟩
theorem fld65_2 : Fld Try.prog 65 2 72 := ⟨⟨_, _, 0, Try.underlying65, rfl, by kernel_rfl, rfl⟩⟩
theorem fld77_0 : Fld Try.prog 77 0 0 := ⟨⟨_, _, 0, Try.underlying77, rfl, by kernel_rfl, rfl⟩⟩
theorem fld77_1 : Fld Try.prog 77 1 1 := ⟨⟨_, _, 0, Try.underlying77, rfl, by kernel_rfl, rfl⟩⟩
theorem fld77_2 : Fld Try.prog 77 2 2 := ⟨⟨_, _, 0, Try.underlying77, rfl, by kernel_rfl, rfl⟩⟩
theorem eqE0 : EqV Try.prog 2 23 (32 * 1) (fun xs => xs.length = 32 * 1 ∧ ∀ i, i < 32 → ∃ n, (xs.drop (i * 1)).take 1 = [Value.int .u8 n]) agV := EqV.arr (n := 32) (EqV.int .u8 Try.underlying5 (by kernel_rfl)) Try.underlying23 (by kernel_rfl)
theorem eqE (x y : Ent) : EqW Try.prog 3 25 34 (eArr x) (eArr y) := ⟨_, EqV.struct' [(1, (fun xs => ∃ n, xs = [Value.int .i64 n])), (32 * 1, (fun xs => xs.length = 32 * 1 ∧ ∀ i, i < 32 → ∃ n, (xs.drop (i * 1)).take 1 = [Value.int .u8 n])), (1, (fun xs => ∃ n, xs = [Value.int .i64 n]))] Try.underlying25 (by kernel_rfl) (by kernel_rfl) ⟨by decide, ⟨hd1, (EqV.int .i64 Try.underlying3 (by kernel_rfl)).up⟩, by decide, ⟨agV, eqE0⟩, by decide, ⟨hd1, (EqV.int .i64 Try.underlying3 (by kernel_rfl)).up⟩, trivial⟩ ⟨rfl, rfl, rfl, rfl⟩, ⟨by rw [Array.length_toList, eArr_size], ⟨_, eArr_f0 _⟩, (by show _ ∧ _; unfold cutF; dsimp only; rw [eArr_f1]; exact bytesV _ _), ⟨_, eArr_f2 _⟩, trivial⟩, ⟨by rw [Array.length_toList, eArr_size], ⟨_, eArr_f0 _⟩, (by show _ ∧ _; unfold cutF; dsimp only; rw [eArr_f1]; exact bytesV _ _), ⟨_, eArr_f2 _⟩, trivial⟩⟩
theorem sttE : Stt Try.prog 25 eZ := ⟨⟨_, Try.underlying25, rfl, fun i f hf => by
  match i, hf with
  | 0, hf => cases hf; exact ⟨_, rfl, by kernel_rfl, rfl⟩
  | 1, hf => cases hf; exact ⟨_, rfl, by kernel_rfl, rfl⟩
  | 2, hf => cases hf; exact ⟨_, rfl, by kernel_rfl, rfl⟩
  | i + 3, hf => simp at hf⟩, by kernel_rfl⟩
theorem sttT : Stt Try.prog 77 tZ := ⟨⟨_, Try.underlying77, rfl, fun i f hf => by
  match i, hf with
  | 0, hf => cases hf; exact ⟨_, rfl, by kernel_rfl, rfl⟩
  | 1, hf => cases hf; exact ⟨_, rfl, by kernel_rfl, rfl⟩
  | 2, hf => cases hf; exact ⟨_, rfl, by kernel_rfl, rfl⟩
  | i + 3, hf => simp at hf⟩, by kernel_rfl⟩
theorem sttM : Stt Try.prog 28 mZs := ⟨⟨_, Try.underlying28, rfl, fun i f hf => by
  match i, hf with
  | 0, hf => cases hf; exact ⟨_, rfl, by kernel_rfl, rfl⟩
  | 1, hf => cases hf; exact ⟨_, rfl, by kernel_rfl, rfl⟩
  | 2, hf => cases hf; exact ⟨_, rfl, by kernel_rfl, rfl⟩
  | 3, hf => cases hf; exact ⟨_, rfl, by kernel_rfl, rfl⟩
  | 4, hf => cases hf; exact ⟨_, rfl, by kernel_rfl, rfl⟩
  | 5, hf => cases hf; exact ⟨_, rfl, by kernel_rfl, rfl⟩
  | 6, hf => cases hf; exact ⟨_, rfl, by kernel_rfl, rfl⟩
  | i + 7, hf => simp at hf⟩, by kernel_rfl⟩
theorem sttF : Stt Try.prog 44 fZ := ⟨⟨_, Try.underlying44, rfl, fun i f hf => by
  match i, hf with
  | 0, hf => cases hf; exact ⟨_, rfl, by kernel_rfl, rfl⟩
  | 1, hf => cases hf; exact ⟨_, rfl, by kernel_rfl, rfl⟩
  | 2, hf => cases hf; exact ⟨_, rfl, by kernel_rfl, rfl⟩
  | 3, hf => cases hf; exact ⟨_, rfl, by kernel_rfl, rfl⟩
  | 4, hf => cases hf; exact ⟨_, rfl, by kernel_rfl, rfl⟩
  | 5, hf => cases hf; exact ⟨_, rfl, by kernel_rfl, rfl⟩
  | i + 6, hf => simp at hf⟩, by kernel_rfl⟩
theorem sttC : Stt Try.prog 58 cZ := ⟨⟨_, Try.underlying58, rfl, fun i f hf => by
  match i, hf with
  | 0, hf => cases hf; exact ⟨_, rfl, by kernel_rfl, rfl⟩
  | i + 1, hf => simp at hf⟩, by kernel_rfl⟩
theorem sttT5 : Stt Try.prog 65 tZs := ⟨⟨_, Try.underlying65, rfl, fun i f hf => by
  match i, hf with
  | 0, hf => cases hf; exact ⟨_, rfl, by kernel_rfl, rfl⟩
  | 1, hf => cases hf; exact ⟨_, rfl, by kernel_rfl, rfl⟩
  | 2, hf => cases hf; exact ⟨_, rfl, by kernel_rfl, rfl⟩
  | i + 3, hf => simp at hf⟩, by kernel_rfl⟩
theorem size5 : (Try.prog.info? 5).map (·.size) = some 1 := by kernel_rfl
theorem zero23 : (Try.prog.info? 23).bind (·.zero) = some (idV 0#256) := idTy.zero
theorem zero25 : (Try.prog.info? 25).bind (·.zero) = some (.agg (eArr (0, 0#256, 0))) := by rw [eArr_zero]; kernel_rfl
theorem zero28 : (Try.prog.info? 28).bind (·.zero) = some (.agg (mArr mZ (.slice none 0 0))) := by rw [mArr_zero]; kernel_rfl
theorem zero30 : (Try.prog.info? 30).bind (·.zero) = some (.int .i64 0) := by kernel_rfl
theorem zero44 : (Try.prog.info? 44).bind (·.zero) = some (.agg (fArr 0)) := by kernel_rfl
theorem zero58 : (Try.prog.info? 58).bind (·.zero) = some (.agg #[.string ⟨#[]⟩]) := by kernel_rfl
theorem zero65 : (Try.prog.info? 65).bind (·.zero) = some (.agg (t5 mZ (.slice none 0 0) ⟨#[]⟩ false)) := by rw [t5_zero]; kernel_rfl
theorem zero69 : (Try.prog.info? 69).bind (·.zero) = some (.agg (bytesF (fun _ => 0) 8)) := by rw [show bytesF (fun _ => 0) 8 = (List.replicate 8 (Value.int .u8 0)).toArray from rfl]; kernel_rfl
theorem zero77 : (Try.prog.info? 77).bind (·.zero) = some (.agg #[.slice none 0 0, .int .i64 0, .int .i64 0]) := by kernel_rfl
theorem fnc (n : Nat) (h : (match Try.prog.funcs[n]? with | some fn => !fn.body.isNone && !(fn.name == "runtime.NumGoroutine") | none => false) = true) : Fnc Try.prog n := by
  cases hf : Try.prog.funcs[n]? with
  | none => rw [hf] at h; simp at h
  | some fn => rw [hf] at h; simp only [Bool.and_eq_true, Bool.not_eq_true'] at h; exact ⟨⟨fn, hf, h.1, h.2⟩⟩
theorem elm5 : Elm Try.prog 5 1 1 := ⟨⟨_, _, rfl, rfl, by kernel_rfl, by kernel_rfl, by kernel_rfl⟩, by decide⟩
theorem elm9 : Elm Try.prog 9 1 16 := ⟨⟨_, _, rfl, rfl, by kernel_rfl, by kernel_rfl, by kernel_rfl⟩, by decide⟩
theorem elm25 : Elm Try.prog 25 34 48 := ⟨⟨_, _, rfl, rfl, by kernel_rfl, by kernel_rfl, by kernel_rfl⟩, by decide⟩
theorem mkb5 : ∃ i, Try.prog.info? 5 = some i ∧ i.zero = some (.int .u8 0) ∧ i.size = 1 ∧ i.bytes = 1 := ⟨_, rfl, by kernel_rfl, by kernel_rfl, by kernel_rfl⟩
theorem zcell5 : (Try.prog.info? 5).bind (·.zero) = some (.int .u8 0) := by kernel_rfl
theorem fnc7 : Fnc Try.prog 7 := fnc 7 (by kernel_rfl)
theorem fnc8 : Fnc Try.prog 8 := fnc 8 (by kernel_rfl)
theorem fnc9 : Fnc Try.prog 9 := fnc 9 (by kernel_rfl)
theorem fnc10 : Fnc Try.prog 10 := fnc 10 (by kernel_rfl)
theorem fnc11 : Fnc Try.prog 11 := fnc 11 (by kernel_rfl)
theorem fnc12 : Fnc Try.prog 12 := fnc 12 (by kernel_rfl)
theorem fnc13 : Fnc Try.prog 13 := fnc 13 (by kernel_rfl)
theorem fnc14 : Fnc Try.prog 14 := fnc 14 (by kernel_rfl)
theorem fnc15 : Fnc Try.prog 15 := fnc 15 (by kernel_rfl)
theorem fnc16 : Fnc Try.prog 16 := fnc 16 (by kernel_rfl)
theorem fnc17 : Fnc Try.prog 17 := fnc 17 (by kernel_rfl)
theorem fnc18 : Fnc Try.prog 18 := fnc 18 (by kernel_rfl)
theorem fnc19 : Fnc Try.prog 19 := fnc 19 (by kernel_rfl)
theorem fnc20 : Fnc Try.prog 20 := fnc 20 (by kernel_rfl)
theorem fnc21 : Fnc Try.prog 21 := fnc 21 (by kernel_rfl)
theorem fnc22 : Fnc Try.prog 22 := fnc 22 (by kernel_rfl)
theorem fnc23 : Fnc Try.prog 23 := fnc 23 (by kernel_rfl)
theorem fnc24 : Fnc Try.prog 24 := fnc 24 (by kernel_rfl)
theorem fnc25 : Fnc Try.prog 25 := fnc 25 (by kernel_rfl)
theorem fnc26 : Fnc Try.prog 26 := fnc 26 (by kernel_rfl)
theorem fnc27 : Fnc Try.prog 27 := fnc 27 (by kernel_rfl)
theorem fnc28 : Fnc Try.prog 28 := fnc 28 (by kernel_rfl)
theorem fnc29 : Fnc Try.prog 29 := fnc 29 (by kernel_rfl)
theorem fnc30 : Fnc Try.prog 30 := fnc 30 (by kernel_rfl)
theorem fnc31 : Fnc Try.prog 31 := fnc 31 (by kernel_rfl)
theorem fnc32 : Fnc Try.prog 32 := fnc 32 (by kernel_rfl)
theorem fnc33 : Fnc Try.prog 33 := fnc 33 (by kernel_rfl)
theorem fnc34 : Fnc Try.prog 34 := fnc 34 (by kernel_rfl)
theorem fnc35 : Fnc Try.prog 35 := fnc 35 (by kernel_rfl)
theorem fnc36 : Fnc Try.prog 36 := fnc 36 (by kernel_rfl)
theorem fnc37 : Fnc Try.prog 37 := fnc 37 (by kernel_rfl)
theorem fnc38 : Fnc Try.prog 38 := fnc 38 (by kernel_rfl)
theorem fnc39 : Fnc Try.prog 39 := fnc 39 (by kernel_rfl)
theorem fnc40 : Fnc Try.prog 40 := fnc 40 (by kernel_rfl)
theorem fnc41 : Fnc Try.prog 41 := fnc 41 (by kernel_rfl)
theorem fnc42 : Fnc Try.prog 42 := fnc 42 (by kernel_rfl)
theorem fnc43 : Fnc Try.prog 43 := fnc 43 (by kernel_rfl)
theorem fnc44 : Fnc Try.prog 44 := fnc 44 (by kernel_rfl)
theorem fnc45 : Fnc Try.prog 45 := fnc 45 (by kernel_rfl)
theorem fnc46 : Fnc Try.prog 46 := fnc 46 (by kernel_rfl)
theorem fnc47 : Fnc Try.prog 47 := fnc 47 (by kernel_rfl)
theorem fnc48 : Fnc Try.prog 48 := fnc 48 (by kernel_rfl)
theorem fnc49 : Fnc Try.prog 49 := fnc 49 (by kernel_rfl)
theorem fnc50 : Fnc Try.prog 50 := fnc 50 (by kernel_rfl)
theorem fnc51 : Fnc Try.prog 51 := fnc 51 (by kernel_rfl)
end Go.Proofs.Ytaehgcdcfbhohaa
