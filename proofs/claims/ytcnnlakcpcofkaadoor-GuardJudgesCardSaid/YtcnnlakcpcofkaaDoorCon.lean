/- What the walks want of the program: its types and functions by number; no condition. -/
import Derived.Test.YtcnnlakcpcofkaaDoorProg
import Derived.KernelRfl
import Derived.Test.YtcnnlakcpcofkaaDoorGd
namespace Go.Proofs.YtcnnlakcpcofkaaDoor
theorem idTy : IdTy Tryd.prog 23 5 := ⟨Tryd.underlying23, by kernel_rfl, Tryd.underlying5, by kernel_rfl, by rw [idV, idArr_zero]; kernel_rfl⟩
theorem row23 : Row Tryd.prog 23 32 := ⟨⟨_, Tryd.underlying23, rfl⟩, by kernel_rfl⟩
theorem row25 : Row Tryd.prog 25 34 := ⟨⟨_, Tryd.underlying25, rfl⟩, by kernel_rfl⟩
theorem row28 : Row Tryd.prog 28 71 := ⟨⟨_, Tryd.underlying28, rfl⟩, by kernel_rfl⟩
theorem row34 : Row Tryd.prog 34 67 := ⟨⟨_, Tryd.underlying34, rfl⟩, by kernel_rfl⟩
theorem row42 : Row Tryd.prog 42 72 := ⟨⟨_, Tryd.underlying42, rfl⟩, by kernel_rfl⟩
theorem row64 : Row Tryd.prog 64 16 := ⟨⟨_, Tryd.underlying64, rfl⟩, by kernel_rfl⟩
theorem row70 : Row Tryd.prog 70 6 := ⟨⟨_, Tryd.underlying70, rfl⟩, by kernel_rfl⟩
theorem row82 : Row Tryd.prog 82 8 := ⟨⟨_, Tryd.underlying82, rfl⟩, by kernel_rfl⟩
theorem row87 : Row Tryd.prog 87 64 := ⟨⟨_, Tryd.underlying87, rfl⟩, by kernel_rfl⟩
theorem row89 : Row Tryd.prog 89 64 := ⟨⟨_, Tryd.underlying89, rfl⟩, by kernel_rfl⟩
theorem one3 : One Tryd.prog 3 := ⟨⟨_, Tryd.underlying3, rfl⟩, by kernel_rfl⟩
theorem one4 : One Tryd.prog 4 := ⟨⟨_, Tryd.underlying4, rfl⟩, by kernel_rfl⟩
theorem one5 : One Tryd.prog 5 := ⟨⟨_, Tryd.underlying5, rfl⟩, by kernel_rfl⟩
theorem one9 : One Tryd.prog 9 := ⟨⟨_, Tryd.underlying9, rfl⟩, by kernel_rfl⟩
theorem one26 : One Tryd.prog 26 := ⟨⟨_, Tryd.underlying26, rfl⟩, by kernel_rfl⟩
theorem one66 : One Tryd.prog 66 := ⟨⟨_, Tryd.underlying66, rfl⟩, by kernel_rfl⟩
theorem one80 : One Tryd.prog 80 := ⟨⟨_, Tryd.underlying80, rfl⟩, by kernel_rfl⟩
theorem one81 : One Tryd.prog 81 := ⟨⟨_, Tryd.underlying81, rfl⟩, by kernel_rfl⟩
theorem szo9 : (Tryd.prog.info? 9).map (·.size) = some 1 := by kernel_rfl
theorem szo25 : (Tryd.prog.info? 25).map (·.size) = some 34 := by kernel_rfl
theorem szo81 : (Tryd.prog.info? 81).map (·.size) = some 1 := by kernel_rfl
theorem fld25_0 : Fld Tryd.prog 25 0 0 := ⟨⟨_, _, 0, Tryd.underlying25, rfl, by kernel_rfl, rfl⟩⟩
theorem fld25_1 : Fld Tryd.prog 25 1 1 := ⟨⟨_, _, 31, Tryd.underlying25, rfl, by kernel_rfl, rfl⟩⟩
theorem fld25_2 : Fld Tryd.prog 25 2 33 := ⟨⟨_, _, 0, Tryd.underlying25, rfl, by kernel_rfl, rfl⟩⟩
theorem fld28_0 : Fld Tryd.prog 28 0 0 := ⟨⟨_, _, 0, Tryd.underlying28, rfl, by kernel_rfl, rfl⟩⟩
theorem fld28_1 : Fld Tryd.prog 28 1 1 := ⟨⟨_, _, 31, Tryd.underlying28, rfl, by kernel_rfl, rfl⟩⟩
theorem fld28_2 : Fld Tryd.prog 28 2 33 := ⟨⟨_, _, 33, Tryd.underlying28, rfl, by kernel_rfl, rfl⟩⟩
theorem fld28_3 : Fld Tryd.prog 28 3 67 := ⟨⟨_, _, 0, Tryd.underlying28, rfl, by kernel_rfl, rfl⟩⟩
theorem fld28_4 : Fld Tryd.prog 28 4 68 := ⟨⟨_, _, 0, Tryd.underlying28, rfl, by kernel_rfl, rfl⟩⟩
theorem fld28_5 : Fld Tryd.prog 28 5 69 := ⟨⟨_, _, 0, Tryd.underlying28, rfl, by kernel_rfl, rfl⟩⟩
theorem fld28_6 : Fld Tryd.prog 28 6 70 := ⟨⟨_, _, 0, Tryd.underlying28, rfl, by kernel_rfl, rfl⟩⟩
theorem fld42_0 : Fld Tryd.prog 42 0 0 := ⟨⟨_, _, 0, Tryd.underlying42, rfl, by kernel_rfl, rfl⟩⟩
theorem fld42_1 : Fld Tryd.prog 42 1 1 := ⟨⟨_, _, 70, Tryd.underlying42, rfl, by kernel_rfl, rfl⟩⟩
theorem fld70_0 : Fld Tryd.prog 70 0 0 := ⟨⟨_, _, 0, Tryd.underlying70, rfl, by kernel_rfl, rfl⟩⟩
theorem fld70_1 : Fld Tryd.prog 70 1 1 := ⟨⟨_, _, 0, Tryd.underlying70, rfl, by kernel_rfl, rfl⟩⟩
theorem fld70_2 : Fld Tryd.prog 70 2 2 := ⟨⟨_, _, 0, Tryd.underlying70, rfl, by kernel_rfl, rfl⟩⟩
theorem fld70_3 : Fld Tryd.prog 70 3 3 := ⟨⟨_, _, 0, Tryd.underlying70, rfl, by kernel_rfl, rfl⟩⟩
theorem fld70_4 : Fld Tryd.prog 70 4 4 := ⟨⟨_, _, 0, Tryd.underlying70, rfl, by kernel_rfl, rfl⟩⟩
theorem fld70_5 : Fld Tryd.prog 70 5 5 := ⟨⟨_, _, 0, Tryd.underlying70, rfl, by kernel_rfl, rfl⟩⟩
theorem eqE0 : EqV Tryd.prog 2 23 (32 * 1) (fun xs => xs.length = 32 * 1 ∧ ∀ i, i < 32 → ∃ n, (xs.drop (i * 1)).take 1 = [Value.int .u8 n]) agV := EqV.arr (n := 32) (EqV.int .u8 Tryd.underlying5 (by kernel_rfl)) Tryd.underlying23 (by kernel_rfl)
theorem eqE (x y : Ent) : EqW Tryd.prog 3 25 34 (eArr x) (eArr y) := ⟨_, EqV.struct' [(1, (fun xs => ∃ n, xs = [Value.int .i64 n])), (32 * 1, (fun xs => xs.length = 32 * 1 ∧ ∀ i, i < 32 → ∃ n, (xs.drop (i * 1)).take 1 = [Value.int .u8 n])), (1, (fun xs => ∃ n, xs = [Value.int .i64 n]))] Tryd.underlying25 (by kernel_rfl) (by kernel_rfl) ⟨by decide, ⟨hd1, (EqV.int .i64 Tryd.underlying3 (by kernel_rfl)).up⟩, by decide, ⟨agV, eqE0⟩, by decide, ⟨hd1, (EqV.int .i64 Tryd.underlying3 (by kernel_rfl)).up⟩, trivial⟩ ⟨rfl, rfl, rfl, rfl⟩, ⟨by rw [Array.length_toList, eArr_size], ⟨_, eArr_f0 _⟩, (by show _ ∧ _; unfold cutF; dsimp only; rw [eArr_f1]; exact bytesV _ _), ⟨_, eArr_f2 _⟩, trivial⟩, ⟨by rw [Array.length_toList, eArr_size], ⟨_, eArr_f0 _⟩, (by show _ ∧ _; unfold cutF; dsimp only; rw [eArr_f1]; exact bytesV _ _), ⟨_, eArr_f2 _⟩, trivial⟩⟩
theorem sttE : Stt Tryd.prog 25 eZ := ⟨⟨_, Tryd.underlying25, rfl, fun i f hf => by
  match i, hf with
  | 0, hf => cases hf; exact ⟨_, rfl, by kernel_rfl, rfl⟩
  | 1, hf => cases hf; exact ⟨_, rfl, by kernel_rfl, rfl⟩
  | 2, hf => cases hf; exact ⟨_, rfl, by kernel_rfl, rfl⟩
  | i + 3, hf => simp at hf⟩, by kernel_rfl⟩
theorem sttG : Stt Tryd.prog 34 tgZ := ⟨⟨_, Tryd.underlying34, rfl, fun i f hf => by
  match i, hf with
  | 0, hf => cases hf; exact ⟨_, rfl, by kernel_rfl, rfl⟩
  | 1, hf => cases hf; exact ⟨_, rfl, by kernel_rfl, rfl⟩
  | 2, hf => cases hf; exact ⟨_, rfl, by kernel_rfl, rfl⟩
  | i + 3, hf => simp at hf⟩, by kernel_rfl⟩
theorem eqG (x y : Tg) : EqW Tryd.prog 4 34 67 (tgArr x) (tgArr y) := by
  obtain ⟨V, E9, h1, h2⟩ := eqE x.2.1 y.2.1
  exact ⟨_, EqV.struct' [(32 * 1, (fun xs => xs.length = 32 * 1 ∧ ∀ i, i < 32 → ∃ n, (xs.drop (i * 1)).take 1 = [Value.int .u8 n])), (34, V), (1, (fun xs => ∃ n, xs = [Value.int .i64 n]))] Tryd.underlying34 (by kernel_rfl) (by kernel_rfl) ⟨by decide, ⟨agV, eqE0.up⟩, by decide, ⟨agV, E9⟩, by decide, ⟨hd1, (EqV.int .i64 Tryd.underlying3 (by kernel_rfl)).up.up⟩, trivial⟩ ⟨rfl, rfl, rfl, rfl⟩, ⟨by rw [Array.length_toList, tgArr_size], (by show _ ∧ _; unfold cutF; dsimp only; rw [tg_f0]; exact bytesV _ _), (by show V (cutF _ _ _); unfold cutF; dsimp only; rw [tg_f1]; exact h1), ⟨_, tg_f2 _⟩, trivial⟩, ⟨by rw [Array.length_toList, tgArr_size], (by show _ ∧ _; unfold cutF; dsimp only; rw [tg_f0]; exact bytesV _ _), (by show V (cutF _ _ _); unfold cutF; dsimp only; rw [tg_f1]; exact h2), ⟨_, tg_f2 _⟩, trivial⟩⟩
theorem sttM : Stt Tryd.prog 28 mZs := ⟨⟨_, Tryd.underlying28, rfl, fun i f hf => by
  match i, hf with
  | 0, hf => cases hf; exact ⟨_, rfl, by kernel_rfl, rfl⟩
  | 1, hf => cases hf; exact ⟨_, rfl, by kernel_rfl, rfl⟩
  | 2, hf => cases hf; exact ⟨_, rfl, by kernel_rfl, rfl⟩
  | 3, hf => cases hf; exact ⟨_, rfl, by kernel_rfl, rfl⟩
  | 4, hf => cases hf; exact ⟨_, rfl, by kernel_rfl, rfl⟩
  | 5, hf => cases hf; exact ⟨_, rfl, by kernel_rfl, rfl⟩
  | 6, hf => cases hf; exact ⟨_, rfl, by kernel_rfl, rfl⟩
  | i + 7, hf => simp at hf⟩, by kernel_rfl⟩
theorem sttGT : Stt Tryd.prog 42 gtZ := ⟨⟨_, Tryd.underlying42, rfl, fun i f hf => by
  match i, hf with
  | 0, hf => cases hf; exact ⟨_, rfl, by kernel_rfl, rfl⟩
  | 1, hf => cases hf; exact ⟨_, rfl, by kernel_rfl, rfl⟩
  | i + 2, hf => simp at hf⟩, by kernel_rfl⟩
theorem eqK0 : EqV Tryd.prog 2 64 (16 * 1) (fun xs => xs.length = 16 * 1 ∧ ∀ i, i < 16 → ∃ n, (xs.drop (i * 1)).take 1 = [Value.int .u8 n]) agV := EqV.arr (n := 16) (EqV.int .u8 Tryd.underlying5 (by kernel_rfl)) Tryd.underlying64 (by kernel_rfl)
theorem eqK (x y : Key) : EqW Tryd.prog 2 64 (16 * 1) (kArr x) (kArr y) := ⟨_, eqK0, bytesV _ _, bytesV _ _⟩
theorem sttF : Stt Tryd.prog 70 fZ := ⟨⟨_, Tryd.underlying70, rfl, fun i f hf => by
  match i, hf with
  | 0, hf => cases hf; exact ⟨_, rfl, by kernel_rfl, rfl⟩
  | 1, hf => cases hf; exact ⟨_, rfl, by kernel_rfl, rfl⟩
  | 2, hf => cases hf; exact ⟨_, rfl, by kernel_rfl, rfl⟩
  | 3, hf => cases hf; exact ⟨_, rfl, by kernel_rfl, rfl⟩
  | 4, hf => cases hf; exact ⟨_, rfl, by kernel_rfl, rfl⟩
  | 5, hf => cases hf; exact ⟨_, rfl, by kernel_rfl, rfl⟩
  | i + 6, hf => simp at hf⟩, by kernel_rfl⟩
theorem size5 : (Tryd.prog.info? 5).map (·.size) = some 1 := by kernel_rfl
theorem size9 : (Tryd.prog.info? 9).map (·.size) = some 1 := by kernel_rfl
theorem size81 : (Tryd.prog.info? 81).map (·.size) = some 1 := by kernel_rfl
theorem zero23 : (Tryd.prog.info? 23).bind (·.zero) = some (idV 0#256) := idTy.zero
theorem zero25 : (Tryd.prog.info? 25).bind (·.zero) = some (.agg (eArr (0, 0#256, 0))) := by rw [eArr_zero]; kernel_rfl
theorem zero28 : (Tryd.prog.info? 28).bind (·.zero) = some (.agg (mArr mZ nilV)) := by rw [show mArr mZ nilV = mArr mZ (.slice none 0 0) from rfl, mArr_zero]; kernel_rfl
theorem zero34 : (Tryd.prog.info? 34).bind (·.zero) = some (.agg (tgArr zTg)) := by rw [tg_zero]; kernel_rfl
theorem zero42 : (Tryd.prog.info? 42).bind (·.zero) = some (.agg (gtArr 0 mZ nilV)) := by rw [gt_zero]; kernel_rfl
theorem zero53 : (Tryd.prog.info? 53).bind (·.zero) = some (.nilFunc) := by kernel_rfl
theorem zero64 : (Tryd.prog.info? 64).bind (·.zero) = some (.agg (bytesF (fun _ => 0) 16)) := by rw [show bytesF (fun _ => 0) 16 = (List.replicate 16 (Value.int .u8 0)).toArray from rfl]; kernel_rfl
theorem zero66 : (Tryd.prog.info? 66).bind (·.zero) = some (.nilFunc) := by kernel_rfl
theorem zero70 : (Tryd.prog.info? 70).bind (·.zero) = some (.agg (fArr 0)) := by kernel_rfl
theorem zero82 : (Tryd.prog.info? 82).bind (·.zero) = some (.agg (wF (fun _ => 0#32) 8)) := by rw [wF_zero]; kernel_rfl
theorem zero87 : (Tryd.prog.info? 87).bind (·.zero) = some (.agg (bytesF (fun _ => 0) 64)) := by rw [show bytesF (fun _ => 0) 64 = (List.replicate 64 (Value.int .u8 0)).toArray from rfl]; kernel_rfl
theorem zero89 : (Tryd.prog.info? 89).bind (·.zero) = some (.agg (wF (fun _ => 0#32) 64)) := by rw [wF_zero]; kernel_rfl
theorem fnc (n : Nat) (h : (match Tryd.prog.funcs[n]? with | some fn => !fn.body.isNone && !(fn.name == "runtime.NumGoroutine") | none => false) = true) : Fnc Tryd.prog n := by
  cases hf : Tryd.prog.funcs[n]? with
  | none => rw [hf] at h; simp at h
  | some fn => rw [hf] at h; simp only [Bool.and_eq_true, Bool.not_eq_true'] at h; exact ⟨⟨fn, hf, h.1, h.2⟩⟩
theorem elm5 : Elm Tryd.prog 5 1 1 := ⟨⟨_, _, rfl, rfl, by kernel_rfl, by kernel_rfl, by kernel_rfl⟩, by decide⟩
theorem elm9 : Elm Tryd.prog 9 1 16 := ⟨⟨_, _, rfl, rfl, by kernel_rfl, by kernel_rfl, by kernel_rfl⟩, by decide⟩
theorem elm81 : Elm Tryd.prog 81 1 4 := elm_of (by kernel_rfl) (by decide)
theorem zcell5 : (Tryd.prog.info? 5).bind (·.zero) = some (.int .u8 0) := by kernel_rfl
theorem fnc7 : Fnc Tryd.prog 7 := fnc 7 (by kernel_rfl)
theorem fnc8 : Fnc Tryd.prog 8 := fnc 8 (by kernel_rfl)
theorem fnc9 : Fnc Tryd.prog 9 := fnc 9 (by kernel_rfl)
theorem fnc10 : Fnc Tryd.prog 10 := fnc 10 (by kernel_rfl)
theorem fnc11 : Fnc Tryd.prog 11 := fnc 11 (by kernel_rfl)
theorem fnc12 : Fnc Tryd.prog 12 := fnc 12 (by kernel_rfl)
theorem fnc13 : Fnc Tryd.prog 13 := fnc 13 (by kernel_rfl)
theorem fnc14 : Fnc Tryd.prog 14 := fnc 14 (by kernel_rfl)
theorem fnc15 : Fnc Tryd.prog 15 := fnc 15 (by kernel_rfl)
theorem fnc16 : Fnc Tryd.prog 16 := fnc 16 (by kernel_rfl)
theorem fnc17 : Fnc Tryd.prog 17 := fnc 17 (by kernel_rfl)
theorem fnc18 : Fnc Tryd.prog 18 := fnc 18 (by kernel_rfl)
theorem fnc19 : Fnc Tryd.prog 19 := fnc 19 (by kernel_rfl)
theorem fnc20 : Fnc Tryd.prog 20 := fnc 20 (by kernel_rfl)
theorem fnc21 : Fnc Tryd.prog 21 := fnc 21 (by kernel_rfl)
theorem fnc22 : Fnc Tryd.prog 22 := fnc 22 (by kernel_rfl)
theorem fnc23 : Fnc Tryd.prog 23 := fnc 23 (by kernel_rfl)
theorem fnc24 : Fnc Tryd.prog 24 := fnc 24 (by kernel_rfl)
theorem fnc25 : Fnc Tryd.prog 25 := fnc 25 (by kernel_rfl)
theorem fnc26 : Fnc Tryd.prog 26 := fnc 26 (by kernel_rfl)
theorem fnc27 : Fnc Tryd.prog 27 := fnc 27 (by kernel_rfl)
theorem fnc28 : Fnc Tryd.prog 28 := fnc 28 (by kernel_rfl)
theorem fnc29 : Fnc Tryd.prog 29 := fnc 29 (by kernel_rfl)
theorem fnc30 : Fnc Tryd.prog 30 := fnc 30 (by kernel_rfl)
theorem fnc31 : Fnc Tryd.prog 31 := fnc 31 (by kernel_rfl)
theorem fnc32 : Fnc Tryd.prog 32 := fnc 32 (by kernel_rfl)
theorem fnc33 : Fnc Tryd.prog 33 := fnc 33 (by kernel_rfl)
theorem fnc34 : Fnc Tryd.prog 34 := fnc 34 (by kernel_rfl)
theorem fnc35 : Fnc Tryd.prog 35 := fnc 35 (by kernel_rfl)
theorem fnc36 : Fnc Tryd.prog 36 := fnc 36 (by kernel_rfl)
theorem fnc37 : Fnc Tryd.prog 37 := fnc 37 (by kernel_rfl)
theorem fnc38 : Fnc Tryd.prog 38 := fnc 38 (by kernel_rfl)
theorem fnc39 : Fnc Tryd.prog 39 := fnc 39 (by kernel_rfl)
theorem fnc40 : Fnc Tryd.prog 40 := fnc 40 (by kernel_rfl)
theorem fnc41 : Fnc Tryd.prog 41 := fnc 41 (by kernel_rfl)
theorem fnc42 : Fnc Tryd.prog 42 := fnc 42 (by kernel_rfl)
theorem fnc43 : Fnc Tryd.prog 43 := fnc 43 (by kernel_rfl)
theorem fnc44 : Fnc Tryd.prog 44 := fnc 44 (by kernel_rfl)
theorem fnc45 : Fnc Tryd.prog 45 := fnc 45 (by kernel_rfl)
theorem fnc46 : Fnc Tryd.prog 46 := fnc 46 (by kernel_rfl)
theorem fnc47 : Fnc Tryd.prog 47 := fnc 47 (by kernel_rfl)
theorem fnc48 : Fnc Tryd.prog 48 := fnc 48 (by kernel_rfl)
theorem fnc49 : Fnc Tryd.prog 49 := fnc 49 (by kernel_rfl)
theorem fnc50 : Fnc Tryd.prog 50 := fnc 50 (by kernel_rfl)
theorem fnc51 : Fnc Tryd.prog 51 := fnc 51 (by kernel_rfl)
theorem fnc52 : Fnc Tryd.prog 52 := fnc 52 (by kernel_rfl)
theorem fnc53 : Fnc Tryd.prog 53 := fnc 53 (by kernel_rfl)
theorem fnc54 : Fnc Tryd.prog 54 := fnc 54 (by kernel_rfl)
theorem fnc55 : Fnc Tryd.prog 55 := fnc 55 (by kernel_rfl)
theorem fnc56 : Fnc Tryd.prog 56 := fnc 56 (by kernel_rfl)
theorem fnc57 : Fnc Tryd.prog 57 := fnc 57 (by kernel_rfl)
theorem fnc58 : Fnc Tryd.prog 58 := fnc 58 (by kernel_rfl)
def FT9 : List (Nat × Nat × Nat) := [(25, 0, 0), (25, 1, 1), (25, 2, 33), (28, 0, 0), (28, 1, 1), (28, 2, 33), (28, 3, 67), (28, 4, 68), (28, 5, 69), (28, 6, 70), (42, 0, 0), (42, 1, 1), (70, 0, 0), (70, 1, 1), (70, 2, 2), (70, 3, 3), (70, 4, 4), (70, 5, 5)]
theorem hFT9 : FT Tryd.prog FT9 := ⟨fld25_0, fld25_1, fld25_2, fld28_0, fld28_1, fld28_2, fld28_3, fld28_4, fld28_5, fld28_6, fld42_0, fld42_1, fld70_0, fld70_1, fld70_2, fld70_3, fld70_4, fld70_5, trivial⟩
end Go.Proofs.YtcnnlakcpcofkaaDoor
