/- What the walks want of the program: its types and functions by number; no condition. -/
import Derived.Test.YtdehanjhphfanaaProg
import Derived.KernelRfl
import Derived.Test.YtdehanjhphfanaaSp
namespace Go.Proofs.Ytdehanjhphfanaa
theorem idTy : IdTy Try.prog 42 5 := ⟨Try.underlying42, by kernel_rfl, Try.underlying5, by kernel_rfl, by rw [idV, idArr_zero]; kernel_rfl⟩
theorem row25 : Row Try.prog 25 3 := ⟨⟨_, Try.underlying25, rfl⟩, by kernel_rfl⟩
theorem row30 : Row Try.prog 30 4 := ⟨⟨_, Try.underlying30, rfl⟩, by kernel_rfl⟩
theorem row42 : Row Try.prog 42 32 := ⟨⟨_, Try.underlying42, rfl⟩, by kernel_rfl⟩
theorem row53 : Row Try.prog 53 34 := ⟨⟨_, Try.underlying53, rfl⟩, by kernel_rfl⟩
theorem row58 : Row Try.prog 58 67 := ⟨⟨_, Try.underlying58, rfl⟩, by kernel_rfl⟩
theorem row72 : Row Try.prog 72 73 := ⟨⟨_, Try.underlying72, rfl⟩, by kernel_rfl⟩
theorem row79 : Row Try.prog 79 4 := ⟨⟨_, Try.underlying79, rfl⟩, by kernel_rfl⟩
theorem row122 : Row Try.prog 122 4 := ⟨⟨_, Try.underlying122, rfl⟩, by kernel_rfl⟩
theorem one3 : One Try.prog 3 := ⟨⟨_, Try.underlying3, rfl⟩, by kernel_rfl⟩
theorem one5 : One Try.prog 5 := ⟨⟨_, Try.underlying5, rfl⟩, by kernel_rfl⟩
theorem one9 : One Try.prog 9 := ⟨⟨_, Try.underlying9, rfl⟩, by kernel_rfl⟩
theorem one23 : One Try.prog 23 := ⟨⟨_, Try.underlying23, rfl⟩, by kernel_rfl⟩
theorem one28 : One Try.prog 28 := ⟨⟨_, Try.underlying28, rfl⟩, by kernel_rfl⟩
theorem one31 : One Try.prog 31 := ⟨⟨_, Try.underlying31, rfl⟩, by kernel_rfl⟩
theorem one60 : One Try.prog 60 := ⟨⟨_, Try.underlying60, rfl⟩, by kernel_rfl⟩
theorem szo3 : (Try.prog.info? 3).map (·.size) = some 1 := by kernel_rfl
theorem szo23 : (Try.prog.info? 23).map (·.size) = some 1 := by kernel_rfl
theorem szo25 : (Try.prog.info? 25).map (·.size) = some 3 := by kernel_rfl
theorem szo53 : (Try.prog.info? 53).map (·.size) = some 34 := by kernel_rfl
theorem szo58 : (Try.prog.info? 58).map (·.size) = some 67 := by kernel_rfl
theorem szo72 : (Try.prog.info? 72).map (·.size) = some 73 := by kernel_rfl
theorem fld25_0 : Fld Try.prog 25 0 0 := ⟨⟨_, _, 0, Try.underlying25, rfl, by kernel_rfl, rfl⟩⟩
theorem fld25_1 : Fld Try.prog 25 1 1 := ⟨⟨_, _, 0, Try.underlying25, rfl, by kernel_rfl, rfl⟩⟩
theorem fld25_2 : Fld Try.prog 25 2 2 := ⟨⟨_, _, 0, Try.underlying25, rfl, by kernel_rfl, rfl⟩⟩
theorem fld30_0 : Fld Try.prog 30 0 0 := ⟨⟨_, _, 0, Try.underlying30, rfl, by kernel_rfl, rfl⟩⟩
theorem fld30_1 : Fld Try.prog 30 1 1 := ⟨⟨_, _, 0, Try.underlying30, rfl, by kernel_rfl, rfl⟩⟩
theorem fld30_2 : Fld Try.prog 30 2 2 := ⟨⟨_, _, 0, Try.underlying30, rfl, by kernel_rfl, rfl⟩⟩
theorem fld30_3 : Fld Try.prog 30 3 3 := ⟨⟨_, _, 0, Try.underlying30, rfl, by kernel_rfl, rfl⟩⟩
theorem fld53_0 : Fld Try.prog 53 0 0 := ⟨⟨_, _, 0, Try.underlying53, rfl, by kernel_rfl, rfl⟩⟩
theorem fld53_1 : Fld Try.prog 53 1 1 := ⟨⟨_, _, 31, Try.underlying53, rfl, by kernel_rfl, rfl⟩⟩
theorem fld53_2 : Fld Try.prog 53 2 33 := ⟨⟨_, _, 0, Try.underlying53, rfl, by kernel_rfl, rfl⟩⟩
theorem fld58_0 : Fld Try.prog 58 0 0 := ⟨⟨_, _, 31, Try.underlying58, rfl, by kernel_rfl, rfl⟩⟩
theorem fld58_1 : Fld Try.prog 58 1 32 := ⟨⟨_, _, 33, Try.underlying58, rfl, by kernel_rfl, rfl⟩⟩
theorem fld58_2 : Fld Try.prog 58 2 66 := ⟨⟨_, _, 0, Try.underlying58, rfl, by kernel_rfl, rfl⟩⟩
theorem fld62_0 : Fld Try.prog 62 0 0 := ⟨⟨_, _, 0, Try.underlying62, rfl, by kernel_rfl, rfl⟩⟩
theorem fld72_0 : Fld Try.prog 72 0 0 := ⟨⟨_, _, 0, Try.underlying72, rfl, by kernel_rfl, rfl⟩⟩
theorem fld72_1 : Fld Try.prog 72 1 1 := ⟨⟨_, _, 0, Try.underlying72, rfl, by kernel_rfl, rfl⟩⟩
theorem fld72_2 : Fld Try.prog 72 2 2 := ⟨⟨_, _, 2, Try.underlying72, rfl, by kernel_rfl, rfl⟩⟩
theorem fld72_4 : Fld Try.prog 72 4 72 := ⟨⟨_, _, 0, Try.underlying72, rfl, by kernel_rfl, rfl⟩⟩
theorem fld79_0 : Fld Try.prog 79 0 0 := ⟨⟨_, _, 0, Try.underlying79, rfl, by kernel_rfl, rfl⟩⟩
theorem fld79_1 : Fld Try.prog 79 1 1 := ⟨⟨_, _, 0, Try.underlying79, rfl, by kernel_rfl, rfl⟩⟩
theorem fld79_2 : Fld Try.prog 79 2 2 := ⟨⟨_, _, 0, Try.underlying79, rfl, by kernel_rfl, rfl⟩⟩
theorem fld79_3 : Fld Try.prog 79 3 3 := ⟨⟨_, _, 0, Try.underlying79, rfl, by kernel_rfl, rfl⟩⟩
theorem fld121_0 : Fld Try.prog 121 0 0 := ⟨⟨_, _, 31, Try.underlying121, rfl, by kernel_rfl, rfl⟩⟩
theorem fld121_1 : Fld Try.prog 121 1 32 := ⟨⟨_, _, 33, Try.underlying121, rfl, by kernel_rfl, rfl⟩⟩
theorem eqE0 : EqV Try.prog 2 42 (32 * 1) (fun xs => xs.length = 32 * 1 ∧ ∀ i, i < 32 → ∃ n, (xs.drop (i * 1)).take 1 = [Value.int .u8 n]) agV := EqV.arr (n := 32) (EqV.int .u8 Try.underlying5 (by kernel_rfl)) Try.underlying42 (by kernel_rfl)
theorem eqE (x y : Ent) : EqW Try.prog 3 53 34 (eArr x) (eArr y) := ⟨_, EqV.struct' [(1, (fun xs => ∃ n, xs = [Value.int .i64 n])), (32 * 1, (fun xs => xs.length = 32 * 1 ∧ ∀ i, i < 32 → ∃ n, (xs.drop (i * 1)).take 1 = [Value.int .u8 n])), (1, (fun xs => ∃ n, xs = [Value.int .i64 n]))] Try.underlying53 (by kernel_rfl) (by kernel_rfl) ⟨by decide, ⟨hd1, (EqV.int .i64 Try.underlying3 (by kernel_rfl)).up⟩, by decide, ⟨agV, eqE0⟩, by decide, ⟨hd1, (EqV.int .i64 Try.underlying3 (by kernel_rfl)).up⟩, trivial⟩ ⟨rfl, rfl, rfl, rfl⟩, ⟨by rw [Array.length_toList, eArr_size], ⟨_, eArr_f0 _⟩, (by show _ ∧ _; unfold cutF; dsimp only; rw [eArr_f1]; exact bytesV _ _), ⟨_, eArr_f2 _⟩, trivial⟩, ⟨by rw [Array.length_toList, eArr_size], ⟨_, eArr_f0 _⟩, (by show _ ∧ _; unfold cutF; dsimp only; rw [eArr_f1]; exact bytesV _ _), ⟨_, eArr_f2 _⟩, trivial⟩⟩
theorem sttE : Stt Try.prog 53 eZ := ⟨⟨_, Try.underlying53, rfl, fun i f hf => by
  match i, hf with
  | 0, hf => cases hf; exact ⟨_, rfl, by kernel_rfl, rfl⟩
  | 1, hf => cases hf; exact ⟨_, rfl, by kernel_rfl, rfl⟩
  | 2, hf => cases hf; exact ⟨_, rfl, by kernel_rfl, rfl⟩
  | i + 3, hf => simp at hf⟩, by kernel_rfl⟩
theorem sttG : Stt Try.prog 58 tgZ := ⟨⟨_, Try.underlying58, rfl, fun i f hf => by
  match i, hf with
  | 0, hf => cases hf; exact ⟨_, rfl, by kernel_rfl, rfl⟩
  | 1, hf => cases hf; exact ⟨_, rfl, by kernel_rfl, rfl⟩
  | 2, hf => cases hf; exact ⟨_, rfl, by kernel_rfl, rfl⟩
  | i + 3, hf => simp at hf⟩, by kernel_rfl⟩
theorem eqG (x y : Tg) : EqW Try.prog 4 58 67 (tgArr x) (tgArr y) := by
  obtain ⟨V, E9, h1, h2⟩ := eqE x.2.1 y.2.1
  exact ⟨_, EqV.struct' [(32 * 1, (fun xs => xs.length = 32 * 1 ∧ ∀ i, i < 32 → ∃ n, (xs.drop (i * 1)).take 1 = [Value.int .u8 n])), (34, V), (1, (fun xs => ∃ n, xs = [Value.int .i64 n]))] Try.underlying58 (by kernel_rfl) (by kernel_rfl) ⟨by decide, ⟨agV, eqE0.up⟩, by decide, ⟨agV, E9⟩, by decide, ⟨hd1, (EqV.int .i64 Try.underlying3 (by kernel_rfl)).up.up⟩, trivial⟩ ⟨rfl, rfl, rfl, rfl⟩, ⟨by rw [Array.length_toList, tgArr_size], (by show _ ∧ _; unfold cutF; dsimp only; rw [tg_f0]; exact bytesV _ _), (by show V (cutF _ _ _); unfold cutF; dsimp only; rw [tg_f1]; exact h1), ⟨_, tg_f2 _⟩, trivial⟩, ⟨by rw [Array.length_toList, tgArr_size], (by show _ ∧ _; unfold cutF; dsimp only; rw [tg_f0]; exact bytesV _ _), (by show V (cutF _ _ _); unfold cutF; dsimp only; rw [tg_f1]; exact h2), ⟨_, tg_f2 _⟩, trivial⟩⟩
theorem sttP : Stt Try.prog 25 pkZ := ⟨⟨_, Try.underlying25, rfl, fun i f hf => by
  match i, hf with
  | 0, hf => cases hf; exact ⟨_, rfl, by kernel_rfl, rfl⟩
  | 1, hf => cases hf; exact ⟨_, rfl, by kernel_rfl, rfl⟩
  | 2, hf => cases hf; exact ⟨_, rfl, by kernel_rfl, rfl⟩
  | i + 3, hf => simp at hf⟩, by kernel_rfl⟩
theorem sttO : Stt Try.prog 72 otZ := ⟨⟨_, Try.underlying72, rfl, fun i f hf => by
  match i, hf with
  | 0, hf => cases hf; exact ⟨_, rfl, by kernel_rfl, rfl⟩
  | 1, hf => cases hf; exact ⟨_, rfl, by kernel_rfl, rfl⟩
  | 2, hf => cases hf; exact ⟨_, rfl, by kernel_rfl, rfl⟩
  | 3, hf => cases hf; exact ⟨_, rfl, by kernel_rfl, rfl⟩
  | 4, hf => cases hf; exact ⟨_, rfl, by kernel_rfl, rfl⟩
  | i + 5, hf => simp at hf⟩, by kernel_rfl⟩
theorem sttS14 : Stt Try.prog 79 ssZ := ⟨⟨_, Try.underlying79, rfl, fun i f hf => by
  match i, hf with
  | 0, hf => cases hf; exact ⟨_, rfl, by kernel_rfl, rfl⟩
  | 1, hf => cases hf; exact ⟨_, rfl, by kernel_rfl, rfl⟩
  | 2, hf => cases hf; exact ⟨_, rfl, by kernel_rfl, rfl⟩
  | 3, hf => cases hf; exact ⟨_, rfl, by kernel_rfl, rfl⟩
  | i + 4, hf => simp at hf⟩, by kernel_rfl⟩
theorem sttSd : Stt Try.prog 30 ssZ := ⟨⟨_, Try.underlying30, rfl, fun i f hf => by
  match i, hf with
  | 0, hf => cases hf; exact ⟨_, rfl, by kernel_rfl, rfl⟩
  | 1, hf => cases hf; exact ⟨_, rfl, by kernel_rfl, rfl⟩
  | 2, hf => cases hf; exact ⟨_, rfl, by kernel_rfl, rfl⟩
  | 3, hf => cases hf; exact ⟨_, rfl, by kernel_rfl, rfl⟩
  | i + 4, hf => simp at hf⟩, by kernel_rfl⟩
theorem sttLk : Stt Try.prog 44 [(idArr 0#256).toList, (idArr 0#256).toList] := ⟨⟨_, Try.underlying44, rfl, fun i f hf => by
  match i, hf with
  | 0, hf => cases hf; exact ⟨_, rfl, by kernel_rfl, rfl⟩
  | 1, hf => cases hf; exact ⟨_, rfl, by kernel_rfl, rfl⟩
  | i + 2, hf => simp at hf⟩, by kernel_rfl⟩
theorem eqLk0 : EqV Try.prog 2 42 (32 * 1) (fun xs => xs.length = 32 * 1 ∧ ∀ i, i < 32 → ∃ n, (xs.drop (i * 1)).take 1 = [Value.int .u8 n]) agV := EqV.arr (n := 32) (EqV.int .u8 Try.underlying5 (by kernel_rfl)) Try.underlying42 (by kernel_rfl)
theorem eqLk (x y : Lnk) : EqW Try.prog 3 44 64 (lArr x) (lArr y) := ⟨_, EqV.struct' [(32 * 1, (fun xs => xs.length = 32 * 1 ∧ ∀ i, i < 32 → ∃ n, (xs.drop (i * 1)).take 1 = [Value.int .u8 n])), (32 * 1, (fun xs => xs.length = 32 * 1 ∧ ∀ i, i < 32 → ∃ n, (xs.drop (i * 1)).take 1 = [Value.int .u8 n]))] Try.underlying44 (by kernel_rfl) (by kernel_rfl) ⟨by decide, ⟨agV, eqLk0⟩, by decide, ⟨agV, eqLk0⟩, trivial⟩ ⟨rfl, rfl, rfl⟩, ⟨bytesF_size _ _, by show _ ∧ _; unfold cutF; dsimp only; rw [lArr, bytes_cut _ _ _ _ (by decide)]; exact bytesV _ _, by show _ ∧ _; unfold cutF; dsimp only; rw [lArr, bytes_cut _ _ _ _ (by decide)]; exact bytesV _ _, trivial⟩, ⟨bytesF_size _ _, by show _ ∧ _; unfold cutF; dsimp only; rw [lArr, bytes_cut _ _ _ _ (by decide)]; exact bytesV _ _, by show _ ∧ _; unfold cutF; dsimp only; rw [lArr, bytes_cut _ _ _ _ (by decide)]; exact bytesV _ _, trivial⟩⟩
theorem size3 : (Try.prog.info? 3).map (·.size) = some 1 := by kernel_rfl
theorem size5 : (Try.prog.info? 5).map (·.size) = some 1 := by kernel_rfl
theorem size119 : (Try.prog.info? 119).map (·.size) = some 1 := by kernel_rfl
theorem zero3 : (Try.prog.info? 3).bind (·.zero) = some (.int .i64 0) := by kernel_rfl
theorem zero25 : (Try.prog.info? 25).bind (·.zero) = some (.agg (pkArr nilV 0 ByteArray.empty)) := by kernel_rfl
theorem zero30 : (Try.prog.info? 30).bind (·.zero) = some (.agg (ssArr nilV 0 0 0)) := by kernel_rfl
theorem zero53 : (Try.prog.info? 53).bind (·.zero) = some (.agg (eArr (0, 0#256, 0))) := by rw [eArr_zero]; kernel_rfl
theorem zero58 : (Try.prog.info? 58).bind (·.zero) = some (.agg (tgArr zTg)) := by rw [tg_zero]; kernel_rfl
theorem zero62 : (Try.prog.info? 62).bind (·.zero) = some (.agg #[nilV]) := by kernel_rfl
theorem zero64 : (Try.prog.info? 64).bind (·.zero) = some (.agg (enA .zero)) := by kernel_rfl
theorem zero72 : (Try.prog.info? 72).bind (·.zero) = some (.agg (otArr 0 0 nilV 0 ByteArray.empty zTg 0)) := by rw [ot_zero]; kernel_rfl
theorem zero79 : (Try.prog.info? 79).bind (·.zero) = some (.agg (ssArr nilV 0 0 0)) := by kernel_rfl
theorem zero122 : (Try.prog.info? 122).bind (·.zero) = some (.agg #[.nilFunc, .nilFunc, .nilFunc, .nilFunc]) := by kernel_rfl
theorem fnc (n : Nat) (h : (match Try.prog.funcs[n]? with | some fn => !fn.body.isNone && !(fn.name == "runtime.NumGoroutine") | none => false) = true) : Fnc Try.prog n := by
  cases hf : Try.prog.funcs[n]? with
  | none => rw [hf] at h; simp at h
  | some fn => rw [hf] at h; simp only [Bool.and_eq_true, Bool.not_eq_true'] at h; exact ⟨⟨fn, hf, h.1, h.2⟩⟩
theorem elm3 : Elm Try.prog 3 1 8 := elm_of (by kernel_rfl) (by decide)
theorem elm23 : Elm Try.prog 23 1 24 := elm_of (by kernel_rfl) (by decide)
theorem elm25 : Elm Try.prog 25 3 48 := elm_of (by kernel_rfl) (by decide)
theorem elm44 : Elm Try.prog 44 64 64 := elm_of (by kernel_rfl) (by decide)
theorem elm53 : Elm Try.prog 53 34 48 := elm_of (by kernel_rfl) (by decide)
theorem elm58 : Elm Try.prog 58 67 88 := elm_of (by kernel_rfl) (by decide)
theorem elm72 : Elm Try.prog 72 73 160 := elm_of (by kernel_rfl) (by decide)
theorem fnc7 : Fnc Try.prog 7 := fnc 7 (by kernel_rfl)
theorem fnc8 : Fnc Try.prog 8 := fnc 8 (by kernel_rfl)
theorem fnc9 : Fnc Try.prog 9 := fnc 9 (by kernel_rfl)
theorem fnc11 : Fnc Try.prog 11 := fnc 11 (by kernel_rfl)
theorem fnc13 : Fnc Try.prog 13 := fnc 13 (by kernel_rfl)
theorem fnc18 : Fnc Try.prog 18 := fnc 18 (by kernel_rfl)
theorem fnc20 : Fnc Try.prog 20 := fnc 20 (by kernel_rfl)
theorem fnc21 : Fnc Try.prog 21 := fnc 21 (by kernel_rfl)
theorem fnc22 : Fnc Try.prog 22 := fnc 22 (by kernel_rfl)
theorem fnc23 : Fnc Try.prog 23 := fnc 23 (by kernel_rfl)
theorem fnc24 : Fnc Try.prog 24 := fnc 24 (by kernel_rfl)
theorem fnc25 : Fnc Try.prog 25 := fnc 25 (by kernel_rfl)
theorem fnc26 : Fnc Try.prog 26 := fnc 26 (by kernel_rfl)
theorem fnc27 : Fnc Try.prog 27 := fnc 27 (by kernel_rfl)
theorem fnc28 : Fnc Try.prog 28 := fnc 28 (by kernel_rfl)
theorem fnc29 : Fnc Try.prog 29 := fnc 29 (by kernel_rfl)
theorem fnc30 : Fnc Try.prog 30 := fnc 30 (by kernel_rfl)
theorem fnc31 : Fnc Try.prog 31 := fnc 31 (by kernel_rfl)
theorem fnc39 : Fnc Try.prog 39 := fnc 39 (by kernel_rfl)
theorem fnc40 : Fnc Try.prog 40 := fnc 40 (by kernel_rfl)
theorem fnc41 : Fnc Try.prog 41 := fnc 41 (by kernel_rfl)
theorem fnc42 : Fnc Try.prog 42 := fnc 42 (by kernel_rfl)
theorem fnc43 : Fnc Try.prog 43 := fnc 43 (by kernel_rfl)
theorem fnc44 : Fnc Try.prog 44 := fnc 44 (by kernel_rfl)
theorem fnc48 : Fnc Try.prog 48 := fnc 48 (by kernel_rfl)
theorem fnc49 : Fnc Try.prog 49 := fnc 49 (by kernel_rfl)
theorem fnc50 : Fnc Try.prog 50 := fnc 50 (by kernel_rfl)
theorem fnc51 : Fnc Try.prog 51 := fnc 51 (by kernel_rfl)
theorem fnc52 : Fnc Try.prog 52 := fnc 52 (by kernel_rfl)
theorem fnc53 : Fnc Try.prog 53 := fnc 53 (by kernel_rfl)
theorem fnc54 : Fnc Try.prog 54 := fnc 54 (by kernel_rfl)
theorem fnc55 : Fnc Try.prog 55 := fnc 55 (by kernel_rfl)
theorem fnc56 : Fnc Try.prog 56 := fnc 56 (by kernel_rfl)
theorem fnc57 : Fnc Try.prog 57 := fnc 57 (by kernel_rfl)
theorem fnc58 : Fnc Try.prog 58 := fnc 58 (by kernel_rfl)
theorem fnc63 : Fnc Try.prog 63 := fnc 63 (by kernel_rfl)
theorem fnc64 : Fnc Try.prog 64 := fnc 64 (by kernel_rfl)
theorem fnc67 : Fnc Try.prog 67 := fnc 67 (by kernel_rfl)
theorem fnc68 : Fnc Try.prog 68 := fnc 68 (by kernel_rfl)
theorem fnc69 : Fnc Try.prog 69 := fnc 69 (by kernel_rfl)
theorem fnc70 : Fnc Try.prog 70 := fnc 70 (by kernel_rfl)
theorem fnc71 : Fnc Try.prog 71 := fnc 71 (by kernel_rfl)
theorem fnc72 : Fnc Try.prog 72 := fnc 72 (by kernel_rfl)
theorem fnc73 : Fnc Try.prog 73 := fnc 73 (by kernel_rfl)
theorem fnc74 : Fnc Try.prog 74 := fnc 74 (by kernel_rfl)
theorem fnc75 : Fnc Try.prog 75 := fnc 75 (by kernel_rfl)
theorem fnc76 : Fnc Try.prog 76 := fnc 76 (by kernel_rfl)
theorem fnc78 : Fnc Try.prog 78 := fnc 78 (by kernel_rfl)
theorem fnc79 : Fnc Try.prog 79 := fnc 79 (by kernel_rfl)
theorem fnc80 : Fnc Try.prog 80 := fnc 80 (by kernel_rfl)
theorem fnc81 : Fnc Try.prog 81 := fnc 81 (by kernel_rfl)
theorem fnc83 : Fnc Try.prog 83 := fnc 83 (by kernel_rfl)
theorem fnc84 : Fnc Try.prog 84 := fnc 84 (by kernel_rfl)
theorem fnc85 : Fnc Try.prog 85 := fnc 85 (by kernel_rfl)
theorem fnc86 : Fnc Try.prog 86 := fnc 86 (by kernel_rfl)
theorem fnc87 : Fnc Try.prog 87 := fnc 87 (by kernel_rfl)
theorem fnc88 : Fnc Try.prog 88 := fnc 88 (by kernel_rfl)
end Go.Proofs.Ytdehanjhphfanaa
