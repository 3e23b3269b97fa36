/- What the walks want of the program: its types and functions by number; no condition. -/
import Derived.Test.YthjkhnhiciamaaaProg
import Derived.KernelRfl
import Derived.Test.YthjkhnhiciamaaaHo
namespace Go.Proofs.Ythjkhnhiciamaaa
theorem idTy : IdTy Try.prog 28 5 := ⟨Try.underlying28, by kernel_rfl, Try.underlying5, by kernel_rfl, by rw [idV, idArr_zero]; kernel_rfl⟩
theorem row26 : Row Try.prog 26 5 := ⟨⟨_, Try.underlying26, rfl⟩, by kernel_rfl⟩
theorem row28 : Row Try.prog 28 32 := ⟨⟨_, Try.underlying28, rfl⟩, by kernel_rfl⟩
theorem row40 : Row Try.prog 40 33 := ⟨⟨_, Try.underlying40, rfl⟩, by kernel_rfl⟩
theorem row47 : Row Try.prog 47 34 := ⟨⟨_, Try.underlying47, rfl⟩, by kernel_rfl⟩
theorem row49 : Row Try.prog 49 71 := ⟨⟨_, Try.underlying49, rfl⟩, by kernel_rfl⟩
theorem row51 : Row Try.prog 51 67 := ⟨⟨_, Try.underlying51, rfl⟩, by kernel_rfl⟩
theorem row53 : Row Try.prog 53 139 := ⟨⟨_, Try.underlying53, rfl⟩, by kernel_rfl⟩
theorem row65 : Row Try.prog 65 7 := ⟨⟨_, Try.underlying65, rfl⟩, by kernel_rfl⟩
theorem row74 : Row Try.prog 74 5 := ⟨⟨_, Try.underlying74, rfl⟩, by kernel_rfl⟩
theorem row77 : Row Try.prog 77 32 := ⟨⟨_, Try.underlying77, rfl⟩, by kernel_rfl⟩
theorem row79 : Row Try.prog 79 33 := ⟨⟨_, Try.underlying79, rfl⟩, by kernel_rfl⟩
theorem row84 : Row Try.prog 84 34 := ⟨⟨_, Try.underlying84, rfl⟩, by kernel_rfl⟩
theorem row98 : Row Try.prog 98 6 := ⟨⟨_, Try.underlying98, rfl⟩, by kernel_rfl⟩
theorem row105 : Row Try.prog 105 34 := ⟨⟨_, Try.underlying105, rfl⟩, by kernel_rfl⟩
theorem one3 : One Try.prog 3 := ⟨⟨_, Try.underlying3, rfl⟩, by kernel_rfl⟩
theorem one4 : One Try.prog 4 := ⟨⟨_, Try.underlying4, rfl⟩, by kernel_rfl⟩
theorem one9 : One Try.prog 9 := ⟨⟨_, Try.underlying9, rfl⟩, by kernel_rfl⟩
theorem one22 : One Try.prog 22 := ⟨⟨_, Try.underlying22, rfl⟩, by kernel_rfl⟩
theorem one23 : One Try.prog 23 := ⟨⟨_, Try.underlying23, rfl⟩, by kernel_rfl⟩
theorem one24 : One Try.prog 24 := ⟨⟨_, Try.underlying24, rfl⟩, by kernel_rfl⟩
theorem one30 : One Try.prog 30 := ⟨⟨_, Try.underlying30, rfl⟩, by kernel_rfl⟩
theorem one42 : One Try.prog 42 := ⟨⟨_, Try.underlying42, rfl⟩, by kernel_rfl⟩
theorem one43 : One Try.prog 43 := ⟨⟨_, Try.underlying43, rfl⟩, by kernel_rfl⟩
theorem one71 : One Try.prog 71 := ⟨⟨_, Try.underlying71, rfl⟩, by kernel_rfl⟩
theorem one72 : One Try.prog 72 := ⟨⟨_, Try.underlying72, rfl⟩, by kernel_rfl⟩
theorem szo9 : (Try.prog.info? 9).map (·.size) = some 1 := by kernel_rfl
theorem szo40 : (Try.prog.info? 40).map (·.size) = some 33 := by kernel_rfl
theorem szo47 : (Try.prog.info? 47).map (·.size) = some 34 := by kernel_rfl
theorem szo53 : (Try.prog.info? 53).map (·.size) = some 139 := by kernel_rfl
theorem szo79 : (Try.prog.info? 79).map (·.size) = some 33 := by kernel_rfl
theorem szo84 : (Try.prog.info? 84).map (·.size) = some 34 := by kernel_rfl
theorem szo105 : (Try.prog.info? 105).map (·.size) = some 34 := by kernel_rfl
theorem fld26_0 : Fld Try.prog 26 0 0 := ⟨⟨_, _, 0, Try.underlying26, rfl, by kernel_rfl, rfl⟩⟩
theorem fld26_1 : Fld Try.prog 26 1 1 := ⟨⟨_, _, 0, Try.underlying26, rfl, by kernel_rfl, rfl⟩⟩
theorem fld26_2 : Fld Try.prog 26 2 2 := ⟨⟨_, _, 0, Try.underlying26, rfl, by kernel_rfl, rfl⟩⟩
theorem fld26_3 : Fld Try.prog 26 3 3 := ⟨⟨_, _, 0, Try.underlying26, rfl, by kernel_rfl, rfl⟩⟩
theorem fld26_4 : Fld Try.prog 26 4 4 := ⟨⟨_, _, 0, Try.underlying26, rfl, by kernel_rfl, rfl⟩⟩
theorem fld40_0 : Fld Try.prog 40 0 0 := ⟨⟨_, _, 31, Try.underlying40, rfl, by kernel_rfl, rfl⟩⟩
theorem fld40_1 : Fld Try.prog 40 1 32 := ⟨⟨_, _, 0, Try.underlying40, rfl, by kernel_rfl, rfl⟩⟩
theorem fld47_0 : Fld Try.prog 47 0 0 := ⟨⟨_, _, 0, Try.underlying47, rfl, by kernel_rfl, rfl⟩⟩
theorem fld47_1 : Fld Try.prog 47 1 1 := ⟨⟨_, _, 31, Try.underlying47, rfl, by kernel_rfl, rfl⟩⟩
theorem fld47_2 : Fld Try.prog 47 2 33 := ⟨⟨_, _, 0, Try.underlying47, rfl, by kernel_rfl, rfl⟩⟩
theorem fld49_0 : Fld Try.prog 49 0 0 := ⟨⟨_, _, 0, Try.underlying49, rfl, by kernel_rfl, rfl⟩⟩
theorem fld49_1 : Fld Try.prog 49 1 1 := ⟨⟨_, _, 31, Try.underlying49, rfl, by kernel_rfl, rfl⟩⟩
theorem fld49_2 : Fld Try.prog 49 2 33 := ⟨⟨_, _, 33, Try.underlying49, rfl, by kernel_rfl, rfl⟩⟩
theorem fld49_3 : Fld Try.prog 49 3 67 := ⟨⟨_, _, 0, Try.underlying49, rfl, by kernel_rfl, rfl⟩⟩
theorem fld49_4 : Fld Try.prog 49 4 68 := ⟨⟨_, _, 0, Try.underlying49, rfl, by kernel_rfl, rfl⟩⟩
theorem fld49_5 : Fld Try.prog 49 5 69 := ⟨⟨_, _, 0, Try.underlying49, rfl, by kernel_rfl, rfl⟩⟩
theorem fld49_6 : Fld Try.prog 49 6 70 := ⟨⟨_, _, 0, Try.underlying49, rfl, by kernel_rfl, rfl⟩⟩
theorem fld53_0 : Fld Try.prog 53 0 0 := ⟨⟨_, _, 0, Try.underlying53, rfl, by kernel_rfl, rfl⟩⟩
theorem fld53_1 : Fld Try.prog 53 1 1 := ⟨⟨_, _, 70, Try.underlying53, rfl, by kernel_rfl, rfl⟩⟩
theorem fld53_2 : Fld Try.prog 53 2 72 := ⟨⟨_, _, 66, Try.underlying53, rfl, by kernel_rfl, rfl⟩⟩
theorem fld65_0 : Fld Try.prog 65 0 0 := ⟨⟨_, _, 4, Try.underlying65, rfl, by kernel_rfl, rfl⟩⟩
theorem fld65_1 : Fld Try.prog 65 1 5 := ⟨⟨_, _, 0, Try.underlying65, rfl, by kernel_rfl, rfl⟩⟩
theorem fld65_2 : Fld Try.prog 65 2 6 := ⟨⟨_, _, 0, Try.underlying65, rfl, by kernel_rfl, rfl⟩⟩
theorem fld74_0 : Fld Try.prog 74 0 0 := ⟨⟨_, _, 0, Try.underlying74, rfl, by kernel_rfl, rfl⟩⟩
theorem fld74_1 : Fld Try.prog 74 1 1 := ⟨⟨_, _, 0, Try.underlying74, rfl, by kernel_rfl, rfl⟩⟩
theorem fld74_2 : Fld Try.prog 74 2 2 := ⟨⟨_, _, 0, Try.underlying74, rfl, by kernel_rfl, rfl⟩⟩
theorem fld74_3 : Fld Try.prog 74 3 3 := ⟨⟨_, _, 0, Try.underlying74, rfl, by kernel_rfl, rfl⟩⟩
theorem fld74_4 : Fld Try.prog 74 4 4 := ⟨⟨_, _, 0, Try.underlying74, rfl, by kernel_rfl, rfl⟩⟩
theorem fld77_0 : Fld Try.prog 77 0 0 := ⟨⟨_, _, 31, Try.underlying77, rfl, by kernel_rfl, rfl⟩⟩
theorem fld79_0 : Fld Try.prog 79 0 0 := ⟨⟨_, _, 31, Try.underlying79, rfl, by kernel_rfl, rfl⟩⟩
theorem fld79_1 : Fld Try.prog 79 1 32 := ⟨⟨_, _, 0, Try.underlying79, rfl, by kernel_rfl, rfl⟩⟩
theorem fld84_0 : Fld Try.prog 84 0 0 := ⟨⟨_, _, 31, Try.underlying84, rfl, by kernel_rfl, rfl⟩⟩
theorem fld84_1 : Fld Try.prog 84 1 32 := ⟨⟨_, _, 0, Try.underlying84, rfl, by kernel_rfl, rfl⟩⟩
theorem fld84_2 : Fld Try.prog 84 2 33 := ⟨⟨_, _, 0, Try.underlying84, rfl, by kernel_rfl, rfl⟩⟩
theorem fld98_0 : Fld Try.prog 98 0 0 := ⟨⟨_, _, 0, Try.underlying98, rfl, by kernel_rfl, rfl⟩⟩
theorem fld98_1 : Fld Try.prog 98 1 1 := ⟨⟨_, _, 0, Try.underlying98, rfl, by kernel_rfl, rfl⟩⟩
theorem fld98_2 : Fld Try.prog 98 2 2 := ⟨⟨_, _, 0, Try.underlying98, rfl, by kernel_rfl, rfl⟩⟩
theorem fld98_3 : Fld Try.prog 98 3 3 := ⟨⟨_, _, 0, Try.underlying98, rfl, by kernel_rfl, rfl⟩⟩
theorem fld98_4 : Fld Try.prog 98 4 4 := ⟨⟨_, _, 0, Try.underlying98, rfl, by kernel_rfl, rfl⟩⟩
theorem fld98_5 : Fld Try.prog 98 5 5 := ⟨⟨_, _, 0, Try.underlying98, rfl, by kernel_rfl, rfl⟩⟩
theorem fld105_0 : Fld Try.prog 105 0 0 := ⟨⟨_, _, 31, Try.underlying105, rfl, by kernel_rfl, rfl⟩⟩
theorem fld105_1 : Fld Try.prog 105 1 32 := ⟨⟨_, _, 0, Try.underlying105, rfl, by kernel_rfl, rfl⟩⟩
theorem fld105_2 : Fld Try.prog 105 2 33 := ⟨⟨_, _, 0, Try.underlying105, rfl, by kernel_rfl, rfl⟩⟩
theorem eqE0 : EqV Try.prog 2 28 (32 * 1) (fun xs => xs.length = 32 * 1 ∧ ∀ i, i < 32 → ∃ n, (xs.drop (i * 1)).take 1 = [Value.int .u8 n]) agV := EqV.arr (n := 32) (EqV.int .u8 Try.underlying5 (by kernel_rfl)) Try.underlying28 (by kernel_rfl)
theorem eqE (x y : Ent) : EqW Try.prog 3 47 34 (eArr x) (eArr y) := ⟨_, EqV.struct' [(1, (fun xs => ∃ n, xs = [Value.int .i64 n])), (32 * 1, (fun xs => xs.length = 32 * 1 ∧ ∀ i, i < 32 → ∃ n, (xs.drop (i * 1)).take 1 = [Value.int .u8 n])), (1, (fun xs => ∃ n, xs = [Value.int .i64 n]))] Try.underlying47 (by kernel_rfl) (by kernel_rfl) ⟨by decide, ⟨hd1, (EqV.int .i64 Try.underlying3 (by kernel_rfl)).up⟩, by decide, ⟨agV, eqE0⟩, by decide, ⟨hd1, (EqV.int .i64 Try.underlying3 (by kernel_rfl)).up⟩, trivial⟩ ⟨rfl, rfl, rfl, rfl⟩, ⟨by rw [Array.length_toList, eArr_size], ⟨_, eArr_f0 _⟩, (by show _ ∧ _; unfold cutF; dsimp only; rw [eArr_f1]; exact bytesV _ _), ⟨_, eArr_f2 _⟩, trivial⟩, ⟨by rw [Array.length_toList, eArr_size], ⟨_, eArr_f0 _⟩, (by show _ ∧ _; unfold cutF; dsimp only; rw [eArr_f1]; exact bytesV _ _), ⟨_, eArr_f2 _⟩, trivial⟩⟩
theorem sttE : Stt Try.prog 47 eZ := ⟨⟨_, Try.underlying47, rfl, fun i f hf => by
  match i, hf with
  | 0, hf => cases hf; exact ⟨_, rfl, by kernel_rfl, rfl⟩
  | 1, hf => cases hf; exact ⟨_, rfl, by kernel_rfl, rfl⟩
  | 2, hf => cases hf; exact ⟨_, rfl, by kernel_rfl, rfl⟩
  | i + 3, hf => simp at hf⟩, by kernel_rfl⟩
theorem sttG : Stt Try.prog 51 tgZ := ⟨⟨_, Try.underlying51, rfl, fun i f hf => by
  match i, hf with
  | 0, hf => cases hf; exact ⟨_, rfl, by kernel_rfl, rfl⟩
  | 1, hf => cases hf; exact ⟨_, rfl, by kernel_rfl, rfl⟩
  | 2, hf => cases hf; exact ⟨_, rfl, by kernel_rfl, rfl⟩
  | i + 3, hf => simp at hf⟩, by kernel_rfl⟩
theorem eqG (x y : Tg) : EqW Try.prog 4 51 67 (tgArr x) (tgArr y) := by
  obtain ⟨V, E9, h1, h2⟩ := eqE x.2.1 y.2.1
  exact ⟨_, EqV.struct' [(32 * 1, (fun xs => xs.length = 32 * 1 ∧ ∀ i, i < 32 → ∃ n, (xs.drop (i * 1)).take 1 = [Value.int .u8 n])), (34, V), (1, (fun xs => ∃ n, xs = [Value.int .i64 n]))] Try.underlying51 (by kernel_rfl) (by kernel_rfl) ⟨by decide, ⟨agV, eqE0.up⟩, by decide, ⟨agV, E9⟩, by decide, ⟨hd1, (EqV.int .i64 Try.underlying3 (by kernel_rfl)).up.up⟩, trivial⟩ ⟨rfl, rfl, rfl, rfl⟩, ⟨by rw [Array.length_toList, tgArr_size], (by show _ ∧ _; unfold cutF; dsimp only; rw [tg_f0]; exact bytesV _ _), (by show V (cutF _ _ _); unfold cutF; dsimp only; rw [tg_f1]; exact h1), ⟨_, tg_f2 _⟩, trivial⟩, ⟨by rw [Array.length_toList, tgArr_size], (by show _ ∧ _; unfold cutF; dsimp only; rw [tg_f0]; exact bytesV _ _), (by show V (cutF _ _ _); unfold cutF; dsimp only; rw [tg_f1]; exact h2), ⟨_, tg_f2 _⟩, trivial⟩⟩
theorem sttM : Stt Try.prog 49 mZs := ⟨⟨_, Try.underlying49, rfl, fun i f hf => by
  match i, hf with
  | 0, hf => cases hf; exact ⟨_, rfl, by kernel_rfl, rfl⟩
  | 1, hf => cases hf; exact ⟨_, rfl, by kernel_rfl, rfl⟩
  | 2, hf => cases hf; exact ⟨_, rfl, by kernel_rfl, rfl⟩
  | 3, hf => cases hf; exact ⟨_, rfl, by kernel_rfl, rfl⟩
  | 4, hf => cases hf; exact ⟨_, rfl, by kernel_rfl, rfl⟩
  | 5, hf => cases hf; exact ⟨_, rfl, by kernel_rfl, rfl⟩
  | 6, hf => cases hf; exact ⟨_, rfl, by kernel_rfl, rfl⟩
  | i + 7, hf => simp at hf⟩, by kernel_rfl⟩
theorem sttF : Stt Try.prog 98 fZ := ⟨⟨_, Try.underlying98, rfl, fun i f hf => by
  match i, hf with
  | 0, hf => cases hf; exact ⟨_, rfl, by kernel_rfl, rfl⟩
  | 1, hf => cases hf; exact ⟨_, rfl, by kernel_rfl, rfl⟩
  | 2, hf => cases hf; exact ⟨_, rfl, by kernel_rfl, rfl⟩
  | 3, hf => cases hf; exact ⟨_, rfl, by kernel_rfl, rfl⟩
  | 4, hf => cases hf; exact ⟨_, rfl, by kernel_rfl, rfl⟩
  | 5, hf => cases hf; exact ⟨_, rfl, by kernel_rfl, rfl⟩
  | i + 6, hf => simp at hf⟩, by kernel_rfl⟩
theorem sttSe : Stt Try.prog 53 seZ := ⟨⟨_, Try.underlying53, rfl, fun i f hf => by
  match i, hf with
  | 0, hf => cases hf; exact ⟨_, rfl, by kernel_rfl, rfl⟩
  | 1, hf => cases hf; exact ⟨_, rfl, by kernel_rfl, rfl⟩
  | 2, hf => cases hf; exact ⟨_, rfl, by kernel_rfl, rfl⟩
  | i + 3, hf => simp at hf⟩, by kernel_rfl⟩
theorem sttHo : Stt Try.prog 26 hoZ := ⟨⟨_, Try.underlying26, rfl, fun i f hf => by
  match i, hf with
  | 0, hf => cases hf; exact ⟨_, rfl, by kernel_rfl, rfl⟩
  | 1, hf => cases hf; exact ⟨_, rfl, by kernel_rfl, rfl⟩
  | 2, hf => cases hf; exact ⟨_, rfl, by kernel_rfl, rfl⟩
  | 3, hf => cases hf; exact ⟨_, rfl, by kernel_rfl, rfl⟩
  | 4, hf => cases hf; exact ⟨_, rfl, by kernel_rfl, rfl⟩
  | i + 5, hf => simp at hf⟩, by kernel_rfl⟩
theorem sttWn : Stt Try.prog 40 wnZ := ⟨⟨_, Try.underlying40, rfl, fun i f hf => by
  match i, hf with
  | 0, hf => cases hf; exact ⟨_, rfl, by kernel_rfl, rfl⟩
  | 1, hf => cases hf; exact ⟨_, rfl, by kernel_rfl, rfl⟩
  | i + 2, hf => simp at hf⟩, by kernel_rfl⟩
theorem eqWn (x y : Wn) : EqW Try.prog 3 40 33 (wnArr x) (wnArr y) := ⟨_, EqV.struct' [(32 * 1, (fun xs => xs.length = 32 * 1 ∧ ∀ i, i < 32 → ∃ n, (xs.drop (i * 1)).take 1 = [Value.int .u8 n])), (1, (fun xs => ∃ n, xs = [Value.int .i64 n]))] Try.underlying40 (by kernel_rfl) (by kernel_rfl) ⟨by decide, ⟨agV, eqE0⟩, by decide, ⟨hd1, (EqV.int .i64 Try.underlying3 (by kernel_rfl)).up⟩, trivial⟩ ⟨rfl, rfl, rfl⟩, ⟨by rw [Array.length_toList, wnArr_size], (by show _ ∧ _; unfold cutF; dsimp only; rw [wn_f0]; exact bytesV _ _), ⟨_, wn_f1 _⟩, trivial⟩, ⟨by rw [Array.length_toList, wnArr_size], (by show _ ∧ _; unfold cutF; dsimp only; rw [wn_f0]; exact bytesV _ _), ⟨_, wn_f1 _⟩, trivial⟩⟩
theorem sttHn : Stt Try.prog 84 hnZ := ⟨⟨_, Try.underlying84, rfl, fun i f hf => by
  match i, hf with
  | 0, hf => cases hf; exact ⟨_, rfl, by kernel_rfl, rfl⟩
  | 1, hf => cases hf; exact ⟨_, rfl, by kernel_rfl, rfl⟩
  | 2, hf => cases hf; exact ⟨_, rfl, by kernel_rfl, rfl⟩
  | i + 3, hf => simp at hf⟩, by kernel_rfl⟩
theorem eqHn (x y : Hn) : EqW Try.prog 3 84 34 (hnArr x) (hnArr y) := ⟨_, EqV.struct' [(32 * 1, (fun xs => xs.length = 32 * 1 ∧ ∀ i, i < 32 → ∃ n, (xs.drop (i * 1)).take 1 = [Value.int .u8 n])), (1, (fun xs => ∃ n, xs = [Value.int .i64 n])), (1, (fun xs => ∃ n, xs = [Value.int .i64 n]))] Try.underlying84 (by kernel_rfl) (by kernel_rfl) ⟨by decide, ⟨agV, eqE0⟩, by decide, ⟨hd1, (EqV.int .i64 Try.underlying3 (by kernel_rfl)).up⟩, by decide, ⟨hd1, (EqV.int .i64 Try.underlying3 (by kernel_rfl)).up⟩, trivial⟩ ⟨rfl, rfl, rfl, rfl⟩, ⟨by rw [Array.length_toList, hnArr_size], (by show _ ∧ _; unfold cutF; dsimp only; rw [hn_f0]; exact bytesV _ _), ⟨_, hn_f1 _⟩, ⟨_, hn_f2 _⟩, trivial⟩, ⟨by rw [Array.length_toList, hnArr_size], (by show _ ∧ _; unfold cutF; dsimp only; rw [hn_f0]; exact bytesV _ _), ⟨_, hn_f1 _⟩, ⟨_, hn_f2 _⟩, trivial⟩⟩
theorem sttIn : Stt Try.prog 74 hoZ := ⟨⟨_, Try.underlying74, rfl, fun i f hf => by
  match i, hf with
  | 0, hf => cases hf; exact ⟨_, rfl, by kernel_rfl, rfl⟩
  | 1, hf => cases hf; exact ⟨_, rfl, by kernel_rfl, rfl⟩
  | 2, hf => cases hf; exact ⟨_, rfl, by kernel_rfl, rfl⟩
  | 3, hf => cases hf; exact ⟨_, rfl, by kernel_rfl, rfl⟩
  | 4, hf => cases hf; exact ⟨_, rfl, by kernel_rfl, rfl⟩
  | i + 5, hf => simp at hf⟩, by kernel_rfl⟩
theorem sttWm : Stt Try.prog 79 wnZ := ⟨⟨_, Try.underlying79, rfl, fun i f hf => by
  match i, hf with
  | 0, hf => cases hf; exact ⟨_, rfl, by kernel_rfl, rfl⟩
  | 1, hf => cases hf; exact ⟨_, rfl, by kernel_rfl, rfl⟩
  | i + 2, hf => simp at hf⟩, by kernel_rfl⟩
theorem sttHm : Stt Try.prog 105 hnZ := ⟨⟨_, Try.underlying105, rfl, fun i f hf => by
  match i, hf with
  | 0, hf => cases hf; exact ⟨_, rfl, by kernel_rfl, rfl⟩
  | 1, hf => cases hf; exact ⟨_, rfl, by kernel_rfl, rfl⟩
  | 2, hf => cases hf; exact ⟨_, rfl, by kernel_rfl, rfl⟩
  | i + 3, hf => simp at hf⟩, by kernel_rfl⟩
theorem sttNm : Stt Try.prog 77 nmZ := ⟨⟨_, Try.underlying77, rfl, fun i f hf => by
  match i, hf with
  | 0, hf => cases hf; exact ⟨_, rfl, by kernel_rfl, rfl⟩
  | i + 1, hf => simp at hf⟩, by kernel_rfl⟩
theorem sttTq : Stt Try.prog 65 thZ := ⟨⟨_, Try.underlying65, rfl, fun i f hf => by
  match i, hf with
  | 0, hf => cases hf; exact ⟨_, rfl, by kernel_rfl, rfl⟩
  | 1, hf => cases hf; exact ⟨_, rfl, by kernel_rfl, rfl⟩
  | 2, hf => cases hf; exact ⟨_, rfl, by kernel_rfl, rfl⟩
  | i + 3, hf => simp at hf⟩, by kernel_rfl⟩
theorem zero26 : (Try.prog.info? 26).bind (·.zero) = some (.agg (hoArr 0 0 nilV nilV nilV)) := by kernel_rfl
theorem zero28 : (Try.prog.info? 28).bind (·.zero) = some (idV 0#256) := idTy.zero
theorem zero40 : (Try.prog.info? 40).bind (·.zero) = some (.agg (wnArr zWn)) := by rw [wn_zero]; kernel_rfl
theorem zero47 : (Try.prog.info? 47).bind (·.zero) = some (.agg (eArr (0, 0#256, 0))) := by rw [eArr_zero]; kernel_rfl
theorem zero49 : (Try.prog.info? 49).bind (·.zero) = some (.agg (mArr mZ nilV)) := by rw [show mArr mZ nilV = mArr mZ (.slice none 0 0) from rfl, mArr_zero]; kernel_rfl
theorem zero53 : (Try.prog.info? 53).bind (·.zero) = some (.agg (seArr 0 mZ nilV zTg)) := by rw [se_zero]; kernel_rfl
theorem zero65 : (Try.prog.info? 65).bind (·.zero) = some (.agg (thArr 0 0 nilV nilV nilV nilV 0)) := by kernel_rfl
theorem zero74 : (Try.prog.info? 74).bind (·.zero) = some (.agg (hoArr 0 0 nilV nilV nilV)) := by kernel_rfl
theorem zero79 : (Try.prog.info? 79).bind (·.zero) = some (.agg (wnArr zWn)) := by rw [wn_zero]; kernel_rfl
theorem zero84 : (Try.prog.info? 84).bind (·.zero) = some (.agg (hnArr zHn)) := by rw [hn_zero]; kernel_rfl
theorem zero98 : (Try.prog.info? 98).bind (·.zero) = some (.agg (fArr 0)) := by kernel_rfl
theorem zero105 : (Try.prog.info? 105).bind (·.zero) = some (.agg (hnArr zHn)) := by rw [hn_zero]; kernel_rfl
theorem fnc (n : Nat) (h : (match Try.prog.funcs[n]? with | some fn => !fn.body.isNone && !(fn.name == "runtime.NumGoroutine") | none => false) = true) : Fnc Try.prog n := by
  cases hf : Try.prog.funcs[n]? with
  | none => rw [hf] at h; simp at h
  | some fn => rw [hf] at h; simp only [Bool.and_eq_true, Bool.not_eq_true'] at h; exact ⟨⟨fn, hf, h.1, h.2⟩⟩
theorem elm9 : Elm Try.prog 9 1 16 := elm_of (by kernel_rfl) (by decide)
theorem elm40 : Elm Try.prog 40 33 40 := elm_of (by kernel_rfl) (by decide)
theorem elm47 : Elm Try.prog 47 34 48 := elm_of (by kernel_rfl) (by decide)
theorem elm53 : Elm Try.prog 53 139 248 := elm_of (by kernel_rfl) (by decide)
theorem elm79 : Elm Try.prog 79 33 40 := elm_of (by kernel_rfl) (by decide)
theorem elm84 : Elm Try.prog 84 34 48 := elm_of (by kernel_rfl) (by decide)
theorem elm105 : Elm Try.prog 105 34 48 := elm_of (by kernel_rfl) (by decide)
theorem fnc9 : Fnc Try.prog 9 := fnc 9 (by kernel_rfl)
theorem fnc10 : Fnc Try.prog 10 := fnc 10 (by kernel_rfl)
theorem fnc11 : Fnc Try.prog 11 := fnc 11 (by kernel_rfl)
theorem fnc13 : Fnc Try.prog 13 := fnc 13 (by kernel_rfl)
theorem fnc14 : Fnc Try.prog 14 := fnc 14 (by kernel_rfl)
theorem fnc15 : Fnc Try.prog 15 := fnc 15 (by kernel_rfl)
theorem fnc16 : Fnc Try.prog 16 := fnc 16 (by kernel_rfl)
theorem fnc17 : Fnc Try.prog 17 := fnc 17 (by kernel_rfl)
theorem fnc18 : Fnc Try.prog 18 := fnc 18 (by kernel_rfl)
theorem fnc20 : Fnc Try.prog 20 := fnc 20 (by kernel_rfl)
theorem fnc22 : Fnc Try.prog 22 := fnc 22 (by kernel_rfl)
theorem fnc24 : Fnc Try.prog 24 := fnc 24 (by kernel_rfl)
theorem fnc25 : Fnc Try.prog 25 := fnc 25 (by kernel_rfl)
theorem fnc26 : Fnc Try.prog 26 := fnc 26 (by kernel_rfl)
theorem fnc27 : Fnc Try.prog 27 := fnc 27 (by kernel_rfl)
theorem fnc28 : Fnc Try.prog 28 := fnc 28 (by kernel_rfl)
theorem fnc29 : Fnc Try.prog 29 := fnc 29 (by kernel_rfl)
theorem fnc30 : Fnc Try.prog 30 := fnc 30 (by kernel_rfl)
theorem fnc31 : Fnc Try.prog 31 := fnc 31 (by kernel_rfl)
theorem fnc32 : Fnc Try.prog 32 := fnc 32 (by kernel_rfl)
theorem fnc33 : Fnc Try.prog 33 := fnc 33 (by kernel_rfl)
theorem fnc34 : Fnc Try.prog 34 := fnc 34 (by kernel_rfl)
theorem fnc35 : Fnc Try.prog 35 := fnc 35 (by kernel_rfl)
theorem fnc36 : Fnc Try.prog 36 := fnc 36 (by kernel_rfl)
theorem fnc37 : Fnc Try.prog 37 := fnc 37 (by kernel_rfl)
theorem fnc38 : Fnc Try.prog 38 := fnc 38 (by kernel_rfl)
theorem fnc39 : Fnc Try.prog 39 := fnc 39 (by kernel_rfl)
theorem fnc40 : Fnc Try.prog 40 := fnc 40 (by kernel_rfl)
theorem fnc41 : Fnc Try.prog 41 := fnc 41 (by kernel_rfl)
theorem fnc42 : Fnc Try.prog 42 := fnc 42 (by kernel_rfl)
theorem fnc43 : Fnc Try.prog 43 := fnc 43 (by kernel_rfl)
theorem fnc44 : Fnc Try.prog 44 := fnc 44 (by kernel_rfl)
theorem fnc45 : Fnc Try.prog 45 := fnc 45 (by kernel_rfl)
theorem fnc46 : Fnc Try.prog 46 := fnc 46 (by kernel_rfl)
theorem fnc47 : Fnc Try.prog 47 := fnc 47 (by kernel_rfl)
theorem fnc48 : Fnc Try.prog 48 := fnc 48 (by kernel_rfl)
theorem fnc49 : Fnc Try.prog 49 := fnc 49 (by kernel_rfl)
theorem fnc50 : Fnc Try.prog 50 := fnc 50 (by kernel_rfl)
theorem fnc51 : Fnc Try.prog 51 := fnc 51 (by kernel_rfl)
theorem fnc52 : Fnc Try.prog 52 := fnc 52 (by kernel_rfl)
theorem fnc53 : Fnc Try.prog 53 := fnc 53 (by kernel_rfl)
theorem fnc54 : Fnc Try.prog 54 := fnc 54 (by kernel_rfl)
theorem fnc55 : Fnc Try.prog 55 := fnc 55 (by kernel_rfl)
theorem fnc56 : Fnc Try.prog 56 := fnc 56 (by kernel_rfl)
theorem fnc57 : Fnc Try.prog 57 := fnc 57 (by kernel_rfl)
theorem fnc58 : Fnc Try.prog 58 := fnc 58 (by kernel_rfl)
theorem fnc59 : Fnc Try.prog 59 := fnc 59 (by kernel_rfl)
theorem fnc60 : Fnc Try.prog 60 := fnc 60 (by kernel_rfl)
theorem fnc61 : Fnc Try.prog 61 := fnc 61 (by kernel_rfl)
theorem fnc62 : Fnc Try.prog 62 := fnc 62 (by kernel_rfl)
theorem fnc63 : Fnc Try.prog 63 := fnc 63 (by kernel_rfl)
theorem fnc64 : Fnc Try.prog 64 := fnc 64 (by kernel_rfl)
theorem fnc65 : Fnc Try.prog 65 := fnc 65 (by kernel_rfl)
theorem fnc66 : Fnc Try.prog 66 := fnc 66 (by kernel_rfl)
theorem fnc67 : Fnc Try.prog 67 := fnc 67 (by kernel_rfl)
theorem fnc68 : Fnc Try.prog 68 := fnc 68 (by kernel_rfl)
theorem fnc69 : Fnc Try.prog 69 := fnc 69 (by kernel_rfl)
theorem fnc70 : Fnc Try.prog 70 := fnc 70 (by kernel_rfl)
theorem fnc71 : Fnc Try.prog 71 := fnc 71 (by kernel_rfl)
theorem fnc72 : Fnc Try.prog 72 := fnc 72 (by kernel_rfl)
theorem fnc73 : Fnc Try.prog 73 := fnc 73 (by kernel_rfl)
theorem fnc74 : Fnc Try.prog 74 := fnc 74 (by kernel_rfl)
theorem fnc75 : Fnc Try.prog 75 := fnc 75 (by kernel_rfl)
theorem fnc76 : Fnc Try.prog 76 := fnc 76 (by kernel_rfl)
theorem fnc77 : Fnc Try.prog 77 := fnc 77 (by kernel_rfl)
theorem fnc78 : Fnc Try.prog 78 := fnc 78 (by kernel_rfl)
theorem fnc79 : Fnc Try.prog 79 := fnc 79 (by kernel_rfl)
theorem fnc95 : Fnc Try.prog 95 := fnc 95 (by kernel_rfl)
def FT9 : List (Nat × Nat × Nat) := [(26, 0, 0), (26, 1, 1), (26, 2, 2), (26, 3, 3), (26, 4, 4), (40, 0, 0), (40, 1, 32), (47, 0, 0), (47, 1, 1), (47, 2, 33), (49, 0, 0), (49, 1, 1), (49, 2, 33), (49, 3, 67), (49, 4, 68), (49, 5, 69), (49, 6, 70), (53, 0, 0), (53, 1, 1), (53, 2, 72), (65, 0, 0), (65, 1, 5), (65, 2, 6), (74, 0, 0), (74, 1, 1), (74, 2, 2), (74, 3, 3), (74, 4, 4), (77, 0, 0), (79, 0, 0), (79, 1, 32), (84, 0, 0), (84, 1, 32), (84, 2, 33), (98, 0, 0), (98, 1, 1), (98, 2, 2), (98, 3, 3), (98, 4, 4), (98, 5, 5), (105, 0, 0), (105, 1, 32), (105, 2, 33)]
theorem hFT9 : FT Try.prog FT9 := ⟨fld26_0, fld26_1, fld26_2, fld26_3, fld26_4, fld40_0, fld40_1, fld47_0, fld47_1, fld47_2, fld49_0, fld49_1, fld49_2, fld49_3, fld49_4, fld49_5, fld49_6, fld53_0, fld53_1, fld53_2, fld65_0, fld65_1, fld65_2, fld74_0, fld74_1, fld74_2, fld74_3, fld74_4, fld77_0, fld79_0, fld79_1, fld84_0, fld84_1, fld84_2, fld98_0, fld98_1, fld98_2, fld98_3, fld98_4, fld98_5, fld105_0, fld105_1, fld105_2, trivial⟩
end Go.Proofs.Ythjkhnhiciamaaa
