/- What the walks want of the program: its types and functions by number; no condition. -/
import Derived.Test.YtpeflbdpfmpnhaaDoorProg
import Derived.KernelRfl
import Derived.Test.YtpeflbdpfmpnhaaDoorPr
namespace Go.Proofs.YtpeflbdpfmpnhaaDoor
theorem idTy : IdTy Tryd.prog 23 5 := ⟨Tryd.underlying23, by kernel_rfl, Tryd.underlying5, by kernel_rfl, by rw [idV, idArr_zero]; kernel_rfl⟩
theorem row23 : Row Tryd.prog 23 32 := ⟨⟨_, Tryd.underlying23, rfl⟩, by kernel_rfl⟩
theorem row38 : Row Tryd.prog 38 64 := ⟨⟨_, Tryd.underlying38, rfl⟩, by kernel_rfl⟩
theorem row45 : Row Tryd.prog 45 16 := ⟨⟨_, Tryd.underlying45, rfl⟩, by kernel_rfl⟩
theorem row54 : Row Tryd.prog 54 32 := ⟨⟨_, Tryd.underlying54, rfl⟩, by kernel_rfl⟩
theorem row61 : Row Tryd.prog 61 8 := ⟨⟨_, Tryd.underlying61, rfl⟩, by kernel_rfl⟩
theorem row66 : Row Tryd.prog 66 64 := ⟨⟨_, Tryd.underlying66, rfl⟩, by kernel_rfl⟩
theorem row68 : Row Tryd.prog 68 64 := ⟨⟨_, Tryd.underlying68, rfl⟩, by kernel_rfl⟩
theorem one5 : One Tryd.prog 5 := ⟨⟨_, Tryd.underlying5, rfl⟩, by kernel_rfl⟩
theorem one9 : One Tryd.prog 9 := ⟨⟨_, Tryd.underlying9, rfl⟩, by kernel_rfl⟩
theorem one49 : One Tryd.prog 49 := ⟨⟨_, Tryd.underlying49, rfl⟩, by kernel_rfl⟩
theorem one58 : One Tryd.prog 58 := ⟨⟨_, Tryd.underlying58, rfl⟩, by kernel_rfl⟩
theorem one60 : One Tryd.prog 60 := ⟨⟨_, Tryd.underlying60, rfl⟩, by kernel_rfl⟩
theorem szo9 : (Tryd.prog.info? 9).map (·.size) = some 1 := by kernel_rfl
theorem szo38 : (Tryd.prog.info? 38).map (·.size) = some 64 := by kernel_rfl
theorem szo54 : (Tryd.prog.info? 54).map (·.size) = some 32 := by kernel_rfl
theorem szo60 : (Tryd.prog.info? 60).map (·.size) = some 1 := by kernel_rfl
theorem fld38_0 : Fld Tryd.prog 38 0 0 := ⟨⟨_, _, 31, Tryd.underlying38, rfl, by kernel_rfl, rfl⟩⟩
theorem fld38_1 : Fld Tryd.prog 38 1 32 := ⟨⟨_, _, 31, Tryd.underlying38, rfl, by kernel_rfl, rfl⟩⟩
theorem fld51_0 : Fld Tryd.prog 51 0 0 := ⟨⟨_, _, 0, Tryd.underlying51, rfl, by kernel_rfl, rfl⟩⟩
theorem fld54_0 : Fld Tryd.prog 54 0 0 := ⟨⟨_, _, 15, Tryd.underlying54, rfl, by kernel_rfl, rfl⟩⟩
theorem fld54_1 : Fld Tryd.prog 54 1 16 := ⟨⟨_, _, 15, Tryd.underlying54, rfl, by kernel_rfl, rfl⟩⟩
theorem eqK0 : EqV Tryd.prog 2 45 (16 * 1) (fun xs => xs.length = 16 * 1 ∧ ∀ i, i < 16 → ∃ n, (xs.drop (i * 1)).take 1 = [Value.int .u8 n]) agV := EqV.arr (n := 16) (EqV.int .u8 Tryd.underlying5 (by kernel_rfl)) Tryd.underlying45 (by kernel_rfl)
theorem eqK (x y : Key) : EqW Tryd.prog 2 45 (16 * 1) (kArr x) (kArr y) := ⟨_, eqK0, bytesV _ _, bytesV _ _⟩
theorem eqS (x y : Stp) : EqW Tryd.prog 3 54 32 (sArr x) (sArr y) := ⟨_, EqV.struct' [(16 * 1, (fun xs => xs.length = 16 * 1 ∧ ∀ i, i < 16 → ∃ n, (xs.drop (i * 1)).take 1 = [Value.int .u8 n])), (16 * 1, (fun xs => xs.length = 16 * 1 ∧ ∀ i, i < 16 → ∃ n, (xs.drop (i * 1)).take 1 = [Value.int .u8 n]))] Tryd.underlying54 (by kernel_rfl) (by kernel_rfl) ⟨by decide, ⟨agV, eqK0⟩, by decide, ⟨agV, eqK0⟩, trivial⟩ ⟨rfl, rfl, rfl⟩, ⟨bytesF_size _ _, by show _ ∧ _; unfold cutF; dsimp only; rw [sArr, bytes_cut _ _ _ _ (by decide)]; exact bytesV _ _, by show _ ∧ _; unfold cutF; dsimp only; rw [sArr, bytes_cut _ _ _ _ (by decide)]; exact bytesV _ _, trivial⟩, ⟨bytesF_size _ _, by show _ ∧ _; unfold cutF; dsimp only; rw [sArr, bytes_cut _ _ _ _ (by decide)]; exact bytesV _ _, by show _ ∧ _; unfold cutF; dsimp only; rw [sArr, bytes_cut _ _ _ _ (by decide)]; exact bytesV _ _, trivial⟩⟩
theorem stt54 : Stt Tryd.prog 54 [List.replicate 16 (.int .u8 0), List.replicate 16 (.int .u8 0)] := ⟨⟨_, Tryd.underlying54, rfl, fun i f hf => by
  match i, hf with
  | 0, hf => cases hf; exact ⟨_, rfl, by kernel_rfl, rfl⟩
  | 1, hf => cases hf; exact ⟨_, rfl, by kernel_rfl, rfl⟩
  | i + 2, hf => simp at hf⟩, by kernel_rfl⟩
theorem stt38 : Stt Tryd.prog 38 [List.replicate 32 (.int .u8 0), List.replicate 32 (.int .u8 0)] := ⟨⟨_, Tryd.underlying38, rfl, fun i f hf => by
  match i, hf with
  | 0, hf => cases hf; exact ⟨_, rfl, by kernel_rfl, rfl⟩
  | 1, hf => cases hf; exact ⟨_, rfl, by kernel_rfl, rfl⟩
  | i + 2, hf => simp at hf⟩, by kernel_rfl⟩
theorem size5 : (Tryd.prog.info? 5).map (·.size) = some 1 := by kernel_rfl
theorem size9 : (Tryd.prog.info? 9).map (·.size) = some 1 := by kernel_rfl
theorem size60 : (Tryd.prog.info? 60).map (·.size) = some 1 := by kernel_rfl
theorem zero23 : (Tryd.prog.info? 23).bind (·.zero) = some (idV 0#256) := idTy.zero
theorem zero38 : (Tryd.prog.info? 38).bind (·.zero) = some (.agg (bytesF (fun _ => 0) 64)) := by rw [show bytesF (fun _ => 0) 64 = (List.replicate 64 (Value.int .u8 0)).toArray from rfl]; kernel_rfl
theorem zero45 : (Tryd.prog.info? 45).bind (·.zero) = some (.agg (bytesF (fun _ => 0) 16)) := by rw [show bytesF (fun _ => 0) 16 = (List.replicate 16 (Value.int .u8 0)).toArray from rfl]; kernel_rfl
theorem zero51 : (Tryd.prog.info? 51).bind (·.zero) = some (.agg #[.slice none 0 0]) := by kernel_rfl
theorem zero54 : (Tryd.prog.info? 54).bind (·.zero) = some (.agg (bytesF (fun _ => 0) 32)) := by rw [show bytesF (fun _ => 0) 32 = (List.replicate 32 (Value.int .u8 0)).toArray from rfl]; kernel_rfl
theorem zero61 : (Tryd.prog.info? 61).bind (·.zero) = some (.agg (wF (fun _ => 0#32) 8)) := by rw [wF_zero]; kernel_rfl
theorem zero66 : (Tryd.prog.info? 66).bind (·.zero) = some (.agg (bytesF (fun _ => 0) 64)) := by rw [show bytesF (fun _ => 0) 64 = (List.replicate 64 (Value.int .u8 0)).toArray from rfl]; kernel_rfl
theorem zero68 : (Tryd.prog.info? 68).bind (·.zero) = some (.agg (wF (fun _ => 0#32) 64)) := by rw [wF_zero]; kernel_rfl
theorem fnc (n : Nat) (h : (match Tryd.prog.funcs[n]? with | some fn => !fn.body.isNone && !(fn.name == "runtime.NumGoroutine") | none => false) = true) : Fnc Tryd.prog n := by
  cases hf : Tryd.prog.funcs[n]? with
  | none => rw [hf] at h; simp at h
  | some fn => rw [hf] at h; simp only [Bool.and_eq_true, Bool.not_eq_true'] at h; exact ⟨⟨fn, hf, h.1, h.2⟩⟩
theorem elm5 : Elm Tryd.prog 5 1 1 := ⟨⟨_, _, rfl, rfl, by kernel_rfl, by kernel_rfl, by kernel_rfl⟩, by decide⟩
theorem elm9 : Elm Tryd.prog 9 1 16 := ⟨⟨_, _, rfl, rfl, by kernel_rfl, by kernel_rfl, by kernel_rfl⟩, by decide⟩
theorem elm38 : Elm Tryd.prog 38 64 64 := ⟨⟨_, _, rfl, rfl, by kernel_rfl, by kernel_rfl, by kernel_rfl⟩, by decide⟩
theorem elm54 : Elm Tryd.prog 54 32 32 := ⟨⟨_, _, rfl, rfl, by kernel_rfl, by kernel_rfl, by kernel_rfl⟩, by decide⟩
theorem elm60 : Elm Tryd.prog 60 1 4 := ⟨⟨_, _, rfl, rfl, by kernel_rfl, by kernel_rfl, by kernel_rfl⟩, by decide⟩
theorem zcell5 : (Tryd.prog.info? 5).bind (·.zero) = some (.int .u8 0) := by kernel_rfl
theorem fnc7 : Fnc Tryd.prog 7 := fnc 7 (by kernel_rfl)
theorem fnc8 : Fnc Tryd.prog 8 := fnc 8 (by kernel_rfl)
theorem fnc9 : Fnc Tryd.prog 9 := fnc 9 (by kernel_rfl)
theorem fnc10 : Fnc Tryd.prog 10 := fnc 10 (by kernel_rfl)
theorem fnc11 : Fnc Tryd.prog 11 := fnc 11 (by kernel_rfl)
theorem fnc12 : Fnc Tryd.prog 12 := fnc 12 (by kernel_rfl)
theorem fnc13 : Fnc Tryd.prog 13 := fnc 13 (by kernel_rfl)
theorem fnc14 : Fnc Tryd.prog 14 := fnc 14 (by kernel_rfl)
theorem fnc15 : Fnc Tryd.prog 15 := fnc 15 (by kernel_rfl)
theorem fnc16 : Fnc Tryd.prog 16 := fnc 16 (by kernel_rfl)
theorem fnc17 : Fnc Tryd.prog 17 := fnc 17 (by kernel_rfl)
theorem fnc18 : Fnc Tryd.prog 18 := fnc 18 (by kernel_rfl)
theorem fnc19 : Fnc Tryd.prog 19 := fnc 19 (by kernel_rfl)
theorem fnc20 : Fnc Tryd.prog 20 := fnc 20 (by kernel_rfl)
theorem fnc21 : Fnc Tryd.prog 21 := fnc 21 (by kernel_rfl)
theorem fnc22 : Fnc Tryd.prog 22 := fnc 22 (by kernel_rfl)
theorem fnc23 : Fnc Tryd.prog 23 := fnc 23 (by kernel_rfl)
theorem fnc24 : Fnc Tryd.prog 24 := fnc 24 (by kernel_rfl)
theorem fnc25 : Fnc Tryd.prog 25 := fnc 25 (by kernel_rfl)
theorem fnc26 : Fnc Tryd.prog 26 := fnc 26 (by kernel_rfl)
theorem fnc27 : Fnc Tryd.prog 27 := fnc 27 (by kernel_rfl)
theorem fnc28 : Fnc Tryd.prog 28 := fnc 28 (by kernel_rfl)
theorem fnc29 : Fnc Tryd.prog 29 := fnc 29 (by kernel_rfl)
theorem fnc30 : Fnc Tryd.prog 30 := fnc 30 (by kernel_rfl)
theorem fnc31 : Fnc Tryd.prog 31 := fnc 31 (by kernel_rfl)
theorem fnc32 : Fnc Tryd.prog 32 := fnc 32 (by kernel_rfl)
theorem fnc33 : Fnc Tryd.prog 33 := fnc 33 (by kernel_rfl)
theorem fnc34 : Fnc Tryd.prog 34 := fnc 34 (by kernel_rfl)
theorem fnc35 : Fnc Tryd.prog 35 := fnc 35 (by kernel_rfl)
theorem fnc36 : Fnc Tryd.prog 36 := fnc 36 (by kernel_rfl)
theorem fnc37 : Fnc Tryd.prog 37 := fnc 37 (by kernel_rfl)
theorem fnc38 : Fnc Tryd.prog 38 := fnc 38 (by kernel_rfl)
theorem fnc39 : Fnc Tryd.prog 39 := fnc 39 (by kernel_rfl)
theorem fnc40 : Fnc Tryd.prog 40 := fnc 40 (by kernel_rfl)
theorem fnc41 : Fnc Tryd.prog 41 := fnc 41 (by kernel_rfl)
theorem fnc42 : Fnc Tryd.prog 42 := fnc 42 (by kernel_rfl)
theorem fnc43 : Fnc Tryd.prog 43 := fnc 43 (by kernel_rfl)
theorem fnc44 : Fnc Tryd.prog 44 := fnc 44 (by kernel_rfl)
theorem fnc45 : Fnc Tryd.prog 45 := fnc 45 (by kernel_rfl)
theorem fnc46 : Fnc Tryd.prog 46 := fnc 46 (by kernel_rfl)
theorem fnc47 : Fnc Tryd.prog 47 := fnc 47 (by kernel_rfl)
theorem fnc48 : Fnc Tryd.prog 48 := fnc 48 (by kernel_rfl)
end Go.Proofs.YtpeflbdpfmpnhaaDoor
