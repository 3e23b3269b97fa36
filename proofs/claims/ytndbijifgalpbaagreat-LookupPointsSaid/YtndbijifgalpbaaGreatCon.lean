/- What the walks want of the program: its types and functions by number; no condition. -/
import Derived.Test.YtndbijifgalpbaaGreatProg
import Derived.KernelRfl
import Derived.Test.YtndbijifgalpbaaGreatLk
namespace Go.Proofs.YtndbijifgalpbaaGreat
theorem idTy : IdTy Tryz.prog 26 5 := ⟨Tryz.underlying26, by kernel_rfl, Tryz.underlying5, by kernel_rfl, by rw [idV, idArr_zero]; kernel_rfl⟩
theorem row24 : Row Tryz.prog 24 1 := ⟨⟨_, Tryz.underlying24, rfl⟩, by kernel_rfl⟩
theorem row26 : Row Tryz.prog 26 32 := ⟨⟨_, Tryz.underlying26, rfl⟩, by kernel_rfl⟩
theorem row39 : Row Tryz.prog 39 33 := ⟨⟨_, Tryz.underlying39, rfl⟩, by kernel_rfl⟩
theorem row46 : Row Tryz.prog 46 68 := ⟨⟨_, Tryz.underlying46, rfl⟩, by kernel_rfl⟩
theorem row73 : Row Tryz.prog 73 34 := ⟨⟨_, Tryz.underlying73, rfl⟩, by kernel_rfl⟩
theorem one3 : One Tryz.prog 3 := ⟨⟨_, Tryz.underlying3, rfl⟩, by kernel_rfl⟩
theorem one4 : One Tryz.prog 4 := ⟨⟨_, Tryz.underlying4, rfl⟩, by kernel_rfl⟩
theorem one5 : One Tryz.prog 5 := ⟨⟨_, Tryz.underlying5, rfl⟩, by kernel_rfl⟩
theorem one22 : One Tryz.prog 22 := ⟨⟨_, Tryz.underlying22, rfl⟩, by kernel_rfl⟩
theorem one28 : One Tryz.prog 28 := ⟨⟨_, Tryz.underlying28, rfl⟩, by kernel_rfl⟩
theorem one29 : One Tryz.prog 29 := ⟨⟨_, Tryz.underlying29, rfl⟩, by kernel_rfl⟩
theorem one37 : One Tryz.prog 37 := ⟨⟨_, Tryz.underlying37, rfl⟩, by kernel_rfl⟩
theorem one60 : One Tryz.prog 60 := ⟨⟨_, Tryz.underlying60, rfl⟩, by kernel_rfl⟩
theorem one75 : One Tryz.prog 75 := ⟨⟨_, Tryz.underlying75, rfl⟩, by kernel_rfl⟩
theorem one81 : One Tryz.prog 81 := ⟨⟨_, Tryz.underlying81, rfl⟩, by kernel_rfl⟩
theorem one105 : One Tryz.prog 105 := ⟨⟨_, Tryz.underlying105, rfl⟩, by kernel_rfl⟩
theorem szo3 : (Tryz.prog.info? 3).map (·.size) = some 1 := by kernel_rfl
theorem szo28 : (Tryz.prog.info? 28).map (·.size) = some 1 := by kernel_rfl
theorem szo39 : (Tryz.prog.info? 39).map (·.size) = some 33 := by kernel_rfl
theorem szo46 : (Tryz.prog.info? 46).map (·.size) = some 68 := by kernel_rfl
theorem fld24_0 : Fld Tryz.prog 24 0 0 := ⟨⟨_, _, 0, Tryz.underlying24, rfl, by kernel_rfl, rfl⟩⟩
theorem fld39_0 : Fld Tryz.prog 39 0 0 := ⟨⟨_, _, 0, Tryz.underlying39, rfl, by kernel_rfl, rfl⟩⟩
theorem fld39_1 : Fld Tryz.prog 39 1 1 := ⟨⟨_, _, 31, Tryz.underlying39, rfl, by kernel_rfl, rfl⟩⟩
theorem fld46_0 : Fld Tryz.prog 46 0 0 := ⟨⟨_, _, 32, Tryz.underlying46, rfl, by kernel_rfl, rfl⟩⟩
theorem fld46_1 : Fld Tryz.prog 46 1 33 := ⟨⟨_, _, 32, Tryz.underlying46, rfl, by kernel_rfl, rfl⟩⟩
theorem fld46_2 : Fld Tryz.prog 46 2 66 := ⟨⟨_, _, 0, Tryz.underlying46, rfl, by kernel_rfl, rfl⟩⟩
theorem fld46_3 : Fld Tryz.prog 46 3 67 := ⟨⟨_, _, 0, Tryz.underlying46, rfl, by kernel_rfl, rfl⟩⟩
theorem fld73_0 : Fld Tryz.prog 73 0 0 := ⟨⟨_, _, 32, Tryz.underlying73, rfl, by kernel_rfl, rfl⟩⟩
theorem fld73_1 : Fld Tryz.prog 73 1 33 := ⟨⟨_, _, 0, Tryz.underlying73, rfl, by kernel_rfl, rfl⟩⟩
theorem eqM0 : EqV Tryz.prog 2 26 (32 * 1) (fun xs => xs.length = 32 * 1 ∧ ∀ i, i < 32 → ∃ n, (xs.drop (i * 1)).take 1 = [Value.int .u8 n]) agV := EqV.arr (n := 32) (EqV.int .u8 Tryz.underlying5 (by kernel_rfl)) Tryz.underlying26 (by kernel_rfl)
theorem eqM (x y : Mb) : EqW Tryz.prog 3 39 33 (mbArr x) (mbArr y) := ⟨_, EqV.struct' [(1, (fun xs => ∃ n, xs = [Value.int .i64 n])), (32 * 1, (fun xs => xs.length = 32 * 1 ∧ ∀ i, i < 32 → ∃ n, (xs.drop (i * 1)).take 1 = [Value.int .u8 n]))] Tryz.underlying39 (by kernel_rfl) (by kernel_rfl) ⟨by decide, ⟨hd1, (EqV.int .i64 Tryz.underlying3 (by kernel_rfl)).up⟩, by decide, ⟨agV, eqM0⟩, trivial⟩ ⟨rfl, rfl, rfl⟩, ⟨by rw [Array.length_toList, mbArr_size], ⟨_, mbArr_f0 _⟩, (by show _ ∧ _; unfold cutF; dsimp only; rw [mbArr_f1]; exact bytesV _ _), trivial⟩, ⟨by rw [Array.length_toList, mbArr_size], ⟨_, mbArr_f0 _⟩, (by show _ ∧ _; unfold cutF; dsimp only; rw [mbArr_f1]; exact bytesV _ _), trivial⟩⟩
theorem sttM : Stt Tryz.prog 39 mbZ := ⟨⟨_, Tryz.underlying39, rfl, fun i f hf => by
  match i, hf with
  | 0, hf => cases hf; exact ⟨_, rfl, by kernel_rfl, rfl⟩
  | 1, hf => cases hf; exact ⟨_, rfl, by kernel_rfl, rfl⟩
  | i + 2, hf => simp at hf⟩, by kernel_rfl⟩
theorem sttN : Stt Tryz.prog 46 ndZ := ⟨⟨_, Tryz.underlying46, rfl, fun i f hf => by
  match i, hf with
  | 0, hf => cases hf; exact ⟨_, rfl, by kernel_rfl, rfl⟩
  | 1, hf => cases hf; exact ⟨_, rfl, by kernel_rfl, rfl⟩
  | 2, hf => cases hf; exact ⟨_, rfl, by kernel_rfl, rfl⟩
  | 3, hf => cases hf; exact ⟨_, rfl, by kernel_rfl, rfl⟩
  | i + 4, hf => simp at hf⟩, by kernel_rfl⟩
theorem sttO : Stt Tryz.prog 24 ovZ := ⟨⟨_, Tryz.underlying24, rfl, fun i f hf => by
  match i, hf with
  | 0, hf => cases hf; exact ⟨_, rfl, by kernel_rfl, rfl⟩
  | i + 1, hf => simp at hf⟩, by kernel_rfl⟩
theorem sttA : Stt Tryz.prog 73 nnZ := ⟨⟨_, Tryz.underlying73, rfl, fun i f hf => by
  match i, hf with
  | 0, hf => cases hf; exact ⟨_, rfl, by kernel_rfl, rfl⟩
  | 1, hf => cases hf; exact ⟨_, rfl, by kernel_rfl, rfl⟩
  | i + 2, hf => simp at hf⟩, by kernel_rfl⟩
theorem eqA (x y : Mb) (p q : Bool) : EqW Tryz.prog 4 73 34 (nnArr x p) (nnArr y q) := by
  obtain ⟨V, E, h1, h2⟩ := eqM x y
  exact ⟨_, EqV.struct' [(33, V), (1, fun xs => ∃ n, xs = [Value.bool n])] Tryz.underlying73 (by kernel_rfl) (by kernel_rfl) ⟨by decide, ⟨agV, E⟩, by decide, ⟨hd1, (EqV.bool Tryz.underlying4 (by kernel_rfl)).up.up⟩, trivial⟩ ⟨rfl, rfl, rfl⟩, ⟨by rw [Array.length_toList, nnArr_size], (by show V (cutF _ _ _); unfold cutF; dsimp only; rw [nn_f0]; exact h1), (by show ∃ n, cutF _ _ _ = _; unfold cutF; dsimp only; rw [nn_f1]; exact ⟨_, rfl⟩), trivial⟩, ⟨by rw [Array.length_toList, nnArr_size], (by show V (cutF _ _ _); unfold cutF; dsimp only; rw [nn_f0]; exact h2), (by show ∃ n, cutF _ _ _ = _; unfold cutF; dsimp only; rw [nn_f1]; exact ⟨_, rfl⟩), trivial⟩⟩
theorem size5 : (Tryz.prog.info? 5).map (·.size) = some 1 := by kernel_rfl
theorem zero4 : (Tryz.prog.info? 4).bind (·.zero) = some (.bool false) := by kernel_rfl
theorem zero24 : (Tryz.prog.info? 24).bind (·.zero) = some (.agg #[nilV]) := by kernel_rfl
theorem zero26 : (Tryz.prog.info? 26).bind (·.zero) = some (idV 0#256) := idTy.zero
theorem zero28 : (Tryz.prog.info? 28).bind (·.zero) = some (.slice none 0 0) := by kernel_rfl
theorem zero29 : (Tryz.prog.info? 29).bind (·.zero) = some (.int .i64 0) := by kernel_rfl
theorem zero37 : (Tryz.prog.info? 37).bind (·.zero) = some (.slice none 0 0) := by kernel_rfl
theorem zero39 : (Tryz.prog.info? 39).bind (·.zero) = some (.agg (mbArr zMb)) := by rw [mb_zero]; kernel_rfl
theorem zero46 : (Tryz.prog.info? 46).bind (·.zero) = some (.agg (ndArr zMb zMb nilV nilV)) := by rw [nd_zero]; kernel_rfl
theorem zero60 : (Tryz.prog.info? 60).bind (·.zero) = some (.pointer none) := by kernel_rfl
theorem zero73 : (Tryz.prog.info? 73).bind (·.zero) = some (.agg (nnArr zMb false)) := by rw [nn_zero]; kernel_rfl
theorem fnc (n : Nat) (h : (match Tryz.prog.funcs[n]? with | some fn => !fn.body.isNone && !(fn.name == "runtime.NumGoroutine") | none => false) = true) : Fnc Tryz.prog n := by
  cases hf : Tryz.prog.funcs[n]? with
  | none => rw [hf] at h; simp at h
  | some fn => rw [hf] at h; simp only [Bool.and_eq_true, Bool.not_eq_true'] at h; exact ⟨⟨fn, hf, h.1, h.2⟩⟩
theorem elm3 : Elm Tryz.prog 3 1 8 := elm_of (by kernel_rfl) (by decide)
theorem elm28 : Elm Tryz.prog 28 1 24 := elm_of (by kernel_rfl) (by decide)
theorem elm39 : Elm Tryz.prog 39 33 40 := elm_of (by kernel_rfl) (by decide)
theorem elm46 : Elm Tryz.prog 46 68 128 := elm_of (by kernel_rfl) (by decide)
theorem fnc5 : Fnc Tryz.prog 5 := fnc 5 (by kernel_rfl)
theorem fnc8 : Fnc Tryz.prog 8 := fnc 8 (by kernel_rfl)
theorem fnc11 : Fnc Tryz.prog 11 := fnc 11 (by kernel_rfl)
theorem fnc12 : Fnc Tryz.prog 12 := fnc 12 (by kernel_rfl)
theorem fnc13 : Fnc Tryz.prog 13 := fnc 13 (by kernel_rfl)
theorem fnc14 : Fnc Tryz.prog 14 := fnc 14 (by kernel_rfl)
theorem fnc15 : Fnc Tryz.prog 15 := fnc 15 (by kernel_rfl)
theorem fnc16 : Fnc Tryz.prog 16 := fnc 16 (by kernel_rfl)
theorem fnc17 : Fnc Tryz.prog 17 := fnc 17 (by kernel_rfl)
theorem fnc25 : Fnc Tryz.prog 25 := fnc 25 (by kernel_rfl)
theorem fnc26 : Fnc Tryz.prog 26 := fnc 26 (by kernel_rfl)
theorem fnc27 : Fnc Tryz.prog 27 := fnc 27 (by kernel_rfl)
theorem fnc28 : Fnc Tryz.prog 28 := fnc 28 (by kernel_rfl)
theorem fnc29 : Fnc Tryz.prog 29 := fnc 29 (by kernel_rfl)
theorem fnc30 : Fnc Tryz.prog 30 := fnc 30 (by kernel_rfl)
theorem fnc31 : Fnc Tryz.prog 31 := fnc 31 (by kernel_rfl)
theorem fnc32 : Fnc Tryz.prog 32 := fnc 32 (by kernel_rfl)
theorem fnc33 : Fnc Tryz.prog 33 := fnc 33 (by kernel_rfl)
theorem fnc34 : Fnc Tryz.prog 34 := fnc 34 (by kernel_rfl)
theorem fnc35 : Fnc Tryz.prog 35 := fnc 35 (by kernel_rfl)
theorem fnc36 : Fnc Tryz.prog 36 := fnc 36 (by kernel_rfl)
theorem fnc37 : Fnc Tryz.prog 37 := fnc 37 (by kernel_rfl)
theorem fnc38 : Fnc Tryz.prog 38 := fnc 38 (by kernel_rfl)
theorem fnc39 : Fnc Tryz.prog 39 := fnc 39 (by kernel_rfl)
theorem fnc40 : Fnc Tryz.prog 40 := fnc 40 (by kernel_rfl)
theorem fnc41 : Fnc Tryz.prog 41 := fnc 41 (by kernel_rfl)
theorem fnc42 : Fnc Tryz.prog 42 := fnc 42 (by kernel_rfl)
theorem fnc43 : Fnc Tryz.prog 43 := fnc 43 (by kernel_rfl)
theorem fnc44 : Fnc Tryz.prog 44 := fnc 44 (by kernel_rfl)
theorem fnc50 : Fnc Tryz.prog 50 := fnc 50 (by kernel_rfl)
theorem fnc51 : Fnc Tryz.prog 51 := fnc 51 (by kernel_rfl)
theorem fnc52 : Fnc Tryz.prog 52 := fnc 52 (by kernel_rfl)
theorem fnc53 : Fnc Tryz.prog 53 := fnc 53 (by kernel_rfl)
theorem fnc54 : Fnc Tryz.prog 54 := fnc 54 (by kernel_rfl)
theorem fnc55 : Fnc Tryz.prog 55 := fnc 55 (by kernel_rfl)
theorem fnc56 : Fnc Tryz.prog 56 := fnc 56 (by kernel_rfl)
theorem fnc57 : Fnc Tryz.prog 57 := fnc 57 (by kernel_rfl)
theorem fnc58 : Fnc Tryz.prog 58 := fnc 58 (by kernel_rfl)
theorem fnc59 : Fnc Tryz.prog 59 := fnc 59 (by kernel_rfl)
theorem fnc60 : Fnc Tryz.prog 60 := fnc 60 (by kernel_rfl)
theorem fnc61 : Fnc Tryz.prog 61 := fnc 61 (by kernel_rfl)
theorem fnc62 : Fnc Tryz.prog 62 := fnc 62 (by kernel_rfl)
theorem fnc63 : Fnc Tryz.prog 63 := fnc 63 (by kernel_rfl)
theorem fnc64 : Fnc Tryz.prog 64 := fnc 64 (by kernel_rfl)
theorem fnc65 : Fnc Tryz.prog 65 := fnc 65 (by kernel_rfl)
theorem fnc66 : Fnc Tryz.prog 66 := fnc 66 (by kernel_rfl)
theorem fnc67 : Fnc Tryz.prog 67 := fnc 67 (by kernel_rfl)
theorem fnc68 : Fnc Tryz.prog 68 := fnc 68 (by kernel_rfl)
theorem fnc69 : Fnc Tryz.prog 69 := fnc 69 (by kernel_rfl)
theorem fnc70 : Fnc Tryz.prog 70 := fnc 70 (by kernel_rfl)
theorem fnc71 : Fnc Tryz.prog 71 := fnc 71 (by kernel_rfl)
theorem fnc72 : Fnc Tryz.prog 72 := fnc 72 (by kernel_rfl)
theorem fnc73 : Fnc Tryz.prog 73 := fnc 73 (by kernel_rfl)
theorem fnc74 : Fnc Tryz.prog 74 := fnc 74 (by kernel_rfl)
theorem fnc75 : Fnc Tryz.prog 75 := fnc 75 (by kernel_rfl)
theorem fnc76 : Fnc Tryz.prog 76 := fnc 76 (by kernel_rfl)
theorem fnc81 : Fnc Tryz.prog 81 := fnc 81 (by kernel_rfl)
theorem fnc82 : Fnc Tryz.prog 82 := fnc 82 (by kernel_rfl)
theorem fnc83 : Fnc Tryz.prog 83 := fnc 83 (by kernel_rfl)
theorem fnc84 : Fnc Tryz.prog 84 := fnc 84 (by kernel_rfl)
theorem fnc85 : Fnc Tryz.prog 85 := fnc 85 (by kernel_rfl)
theorem fnc86 : Fnc Tryz.prog 86 := fnc 86 (by kernel_rfl)
theorem fnc87 : Fnc Tryz.prog 87 := fnc 87 (by kernel_rfl)
theorem fnc88 : Fnc Tryz.prog 88 := fnc 88 (by kernel_rfl)
theorem fnc89 : Fnc Tryz.prog 89 := fnc 89 (by kernel_rfl)
theorem fnc90 : Fnc Tryz.prog 90 := fnc 90 (by kernel_rfl)
theorem fnc91 : Fnc Tryz.prog 91 := fnc 91 (by kernel_rfl)
theorem fnc92 : Fnc Tryz.prog 92 := fnc 92 (by kernel_rfl)
theorem fnc93 : Fnc Tryz.prog 93 := fnc 93 (by kernel_rfl)
theorem fnc94 : Fnc Tryz.prog 94 := fnc 94 (by kernel_rfl)
theorem fnc95 : Fnc Tryz.prog 95 := fnc 95 (by kernel_rfl)
theorem fnc96 : Fnc Tryz.prog 96 := fnc 96 (by kernel_rfl)
theorem fnc97 : Fnc Tryz.prog 97 := fnc 97 (by kernel_rfl)
theorem fnc98 : Fnc Tryz.prog 98 := fnc 98 (by kernel_rfl)
theorem fnc99 : Fnc Tryz.prog 99 := fnc 99 (by kernel_rfl)
theorem fnc100 : Fnc Tryz.prog 100 := fnc 100 (by kernel_rfl)
theorem fnc101 : Fnc Tryz.prog 101 := fnc 101 (by kernel_rfl)
theorem fnc102 : Fnc Tryz.prog 102 := fnc 102 (by kernel_rfl)
theorem fnc103 : Fnc Tryz.prog 103 := fnc 103 (by kernel_rfl)
theorem fnc104 : Fnc Tryz.prog 104 := fnc 104 (by kernel_rfl)
theorem fnc105 : Fnc Tryz.prog 105 := fnc 105 (by kernel_rfl)
theorem fnc106 : Fnc Tryz.prog 106 := fnc 106 (by kernel_rfl)
theorem fnc107 : Fnc Tryz.prog 107 := fnc 107 (by kernel_rfl)
theorem fnc110 : Fnc Tryz.prog 110 := fnc 110 (by kernel_rfl)
end Go.Proofs.YtndbijifgalpbaaGreat
