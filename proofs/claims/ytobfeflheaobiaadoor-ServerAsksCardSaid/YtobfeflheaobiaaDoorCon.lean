/- What the walks want of the program: its types and functions by number; no condition. -/
import Derived.Test.YtobfeflheaobiaaDoorProg
import Derived.KernelRfl
import Derived.Test.YtobfeflheaobiaaDoorSv
namespace Go.Proofs.YtobfeflheaobiaaDoor
theorem idTy : IdTy Tryd.prog 26 5 := ⟨Tryd.underlying26, by kernel_rfl, Tryd.underlying5, by kernel_rfl, by rw [idV, idArr_zero]; kernel_rfl⟩
theorem row24 : Row Tryd.prog 24 3 := ⟨⟨_, Tryd.underlying24, rfl⟩, by kernel_rfl⟩
theorem row26 : Row Tryd.prog 26 32 := ⟨⟨_, Tryd.underlying26, rfl⟩, by kernel_rfl⟩
theorem row28 : Row Tryd.prog 28 34 := ⟨⟨_, Tryd.underlying28, rfl⟩, by kernel_rfl⟩
theorem row31 : Row Tryd.prog 31 71 := ⟨⟨_, Tryd.underlying31, rfl⟩, by kernel_rfl⟩
theorem row41 : Row Tryd.prog 41 67 := ⟨⟨_, Tryd.underlying41, rfl⟩, by kernel_rfl⟩
theorem row43 : Row Tryd.prog 43 139 := ⟨⟨_, Tryd.underlying43, rfl⟩, by kernel_rfl⟩
theorem row62 : Row Tryd.prog 62 6 := ⟨⟨_, Tryd.underlying62, rfl⟩, by kernel_rfl⟩
theorem row70 : Row Tryd.prog 70 16 := ⟨⟨_, Tryd.underlying70, rfl⟩, by kernel_rfl⟩
theorem row77 : Row Tryd.prog 77 71 := ⟨⟨_, Tryd.underlying77, rfl⟩, by kernel_rfl⟩
theorem row78 : Row Tryd.prog 78 71 := ⟨⟨_, Tryd.underlying78, rfl⟩, by kernel_rfl⟩
theorem row88 : Row Tryd.prog 88 8 := ⟨⟨_, Tryd.underlying88, rfl⟩, by kernel_rfl⟩
theorem row93 : Row Tryd.prog 93 64 := ⟨⟨_, Tryd.underlying93, rfl⟩, by kernel_rfl⟩
theorem row95 : Row Tryd.prog 95 64 := ⟨⟨_, Tryd.underlying95, rfl⟩, by kernel_rfl⟩
theorem row104 : Row Tryd.prog 104 3 := ⟨⟨_, Tryd.underlying104, rfl⟩, by kernel_rfl⟩
theorem row111 : Row Tryd.prog 111 73 := ⟨⟨_, Tryd.underlying111, rfl⟩, by kernel_rfl⟩
theorem row125 : Row Tryd.prog 125 4 := ⟨⟨_, Tryd.underlying125, rfl⟩, by kernel_rfl⟩
theorem one3 : One Tryd.prog 3 := ⟨⟨_, Tryd.underlying3, rfl⟩, by kernel_rfl⟩
theorem one4 : One Tryd.prog 4 := ⟨⟨_, Tryd.underlying4, rfl⟩, by kernel_rfl⟩
theorem one5 : One Tryd.prog 5 := ⟨⟨_, Tryd.underlying5, rfl⟩, by kernel_rfl⟩
theorem one9 : One Tryd.prog 9 := ⟨⟨_, Tryd.underlying9, rfl⟩, by kernel_rfl⟩
theorem one22 : One Tryd.prog 22 := ⟨⟨_, Tryd.underlying22, rfl⟩, by kernel_rfl⟩
theorem one29 : One Tryd.prog 29 := ⟨⟨_, Tryd.underlying29, rfl⟩, by kernel_rfl⟩
theorem one35 : One Tryd.prog 35 := ⟨⟨_, Tryd.underlying35, rfl⟩, by kernel_rfl⟩
theorem one86 : One Tryd.prog 86 := ⟨⟨_, Tryd.underlying86, rfl⟩, by kernel_rfl⟩
theorem one87 : One Tryd.prog 87 := ⟨⟨_, Tryd.underlying87, rfl⟩, by kernel_rfl⟩
theorem one147 : One Tryd.prog 147 := ⟨⟨_, Tryd.underlying147, rfl⟩, by kernel_rfl⟩
theorem szo22 : (Tryd.prog.info? 22).map (·.size) = some 1 := by kernel_rfl
theorem szo28 : (Tryd.prog.info? 28).map (·.size) = some 34 := by kernel_rfl
theorem szo29 : (Tryd.prog.info? 29).map (·.size) = some 1 := by kernel_rfl
theorem szo41 : (Tryd.prog.info? 41).map (·.size) = some 67 := by kernel_rfl
theorem szo43 : (Tryd.prog.info? 43).map (·.size) = some 139 := by kernel_rfl
theorem szo111 : (Tryd.prog.info? 111).map (·.size) = some 73 := by kernel_rfl
theorem fld24_0 : Fld Tryd.prog 24 0 0 := ⟨⟨_, _, 0, Tryd.underlying24, rfl, by kernel_rfl, rfl⟩⟩
theorem fld24_1 : Fld Tryd.prog 24 1 1 := ⟨⟨_, _, 0, Tryd.underlying24, rfl, by kernel_rfl, rfl⟩⟩
theorem fld24_2 : Fld Tryd.prog 24 2 2 := ⟨⟨_, _, 0, Tryd.underlying24, rfl, by kernel_rfl, rfl⟩⟩
theorem fld28_0 : Fld Tryd.prog 28 0 0 := ⟨⟨_, _, 0, Tryd.underlying28, rfl, by kernel_rfl, rfl⟩⟩
theorem fld28_1 : Fld Tryd.prog 28 1 1 := ⟨⟨_, _, 31, Tryd.underlying28, rfl, by kernel_rfl, rfl⟩⟩
theorem fld28_2 : Fld Tryd.prog 28 2 33 := ⟨⟨_, _, 0, Tryd.underlying28, rfl, by kernel_rfl, rfl⟩⟩
theorem fld31_0 : Fld Tryd.prog 31 0 0 := ⟨⟨_, _, 0, Tryd.underlying31, rfl, by kernel_rfl, rfl⟩⟩
theorem fld31_1 : Fld Tryd.prog 31 1 1 := ⟨⟨_, _, 31, Tryd.underlying31, rfl, by kernel_rfl, rfl⟩⟩
theorem fld31_2 : Fld Tryd.prog 31 2 33 := ⟨⟨_, _, 33, Tryd.underlying31, rfl, by kernel_rfl, rfl⟩⟩
theorem fld31_3 : Fld Tryd.prog 31 3 67 := ⟨⟨_, _, 0, Tryd.underlying31, rfl, by kernel_rfl, rfl⟩⟩
theorem fld31_4 : Fld Tryd.prog 31 4 68 := ⟨⟨_, _, 0, Tryd.underlying31, rfl, by kernel_rfl, rfl⟩⟩
theorem fld31_5 : Fld Tryd.prog 31 5 69 := ⟨⟨_, _, 0, Tryd.underlying31, rfl, by kernel_rfl, rfl⟩⟩
theorem fld31_6 : Fld Tryd.prog 31 6 70 := ⟨⟨_, _, 0, Tryd.underlying31, rfl, by kernel_rfl, rfl⟩⟩
theorem fld41_0 : Fld Tryd.prog 41 0 0 := ⟨⟨_, _, 31, Tryd.underlying41, rfl, by kernel_rfl, rfl⟩⟩
theorem fld41_1 : Fld Tryd.prog 41 1 32 := ⟨⟨_, _, 33, Tryd.underlying41, rfl, by kernel_rfl, rfl⟩⟩
theorem fld41_2 : Fld Tryd.prog 41 2 66 := ⟨⟨_, _, 0, Tryd.underlying41, rfl, by kernel_rfl, rfl⟩⟩
theorem fld43_0 : Fld Tryd.prog 43 0 0 := ⟨⟨_, _, 0, Tryd.underlying43, rfl, by kernel_rfl, rfl⟩⟩
theorem fld43_1 : Fld Tryd.prog 43 1 1 := ⟨⟨_, _, 70, Tryd.underlying43, rfl, by kernel_rfl, rfl⟩⟩
theorem fld62_0 : Fld Tryd.prog 62 0 0 := ⟨⟨_, _, 0, Tryd.underlying62, rfl, by kernel_rfl, rfl⟩⟩
theorem fld62_1 : Fld Tryd.prog 62 1 1 := ⟨⟨_, _, 0, Tryd.underlying62, rfl, by kernel_rfl, rfl⟩⟩
theorem fld62_2 : Fld Tryd.prog 62 2 2 := ⟨⟨_, _, 0, Tryd.underlying62, rfl, by kernel_rfl, rfl⟩⟩
theorem fld62_3 : Fld Tryd.prog 62 3 3 := ⟨⟨_, _, 0, Tryd.underlying62, rfl, by kernel_rfl, rfl⟩⟩
theorem fld62_4 : Fld Tryd.prog 62 4 4 := ⟨⟨_, _, 0, Tryd.underlying62, rfl, by kernel_rfl, rfl⟩⟩
theorem fld62_5 : Fld Tryd.prog 62 5 5 := ⟨⟨_, _, 0, Tryd.underlying62, rfl, by kernel_rfl, rfl⟩⟩
theorem fld77_0 : Fld Tryd.prog 77 0 0 := ⟨⟨_, _, 70, Tryd.underlying77, rfl, by kernel_rfl, rfl⟩⟩
theorem fld78_0 : Fld Tryd.prog 78 0 0 := ⟨⟨_, _, 70, Tryd.underlying78, rfl, by kernel_rfl, rfl⟩⟩
theorem fld104_0 : Fld Tryd.prog 104 0 0 := ⟨⟨_, _, 0, Tryd.underlying104, rfl, by kernel_rfl, rfl⟩⟩
theorem fld104_1 : Fld Tryd.prog 104 1 1 := ⟨⟨_, _, 0, Tryd.underlying104, rfl, by kernel_rfl, rfl⟩⟩
theorem fld104_2 : Fld Tryd.prog 104 2 2 := ⟨⟨_, _, 0, Tryd.underlying104, rfl, by kernel_rfl, rfl⟩⟩
theorem fld111_0 : Fld Tryd.prog 111 0 0 := ⟨⟨_, _, 0, Tryd.underlying111, rfl, by kernel_rfl, rfl⟩⟩
theorem fld111_1 : Fld Tryd.prog 111 1 1 := ⟨⟨_, _, 0, Tryd.underlying111, rfl, by kernel_rfl, rfl⟩⟩
theorem fld111_2 : Fld Tryd.prog 111 2 2 := ⟨⟨_, _, 2, Tryd.underlying111, rfl, by kernel_rfl, rfl⟩⟩
theorem fld111_3 : Fld Tryd.prog 111 3 5 := ⟨⟨_, _, 66, Tryd.underlying111, rfl, by kernel_rfl, rfl⟩⟩
theorem fld111_4 : Fld Tryd.prog 111 4 72 := ⟨⟨_, _, 0, Tryd.underlying111, rfl, by kernel_rfl, rfl⟩⟩
theorem fld124_0 : Fld Tryd.prog 124 0 0 := ⟨⟨_, _, 31, Tryd.underlying124, rfl, by kernel_rfl, rfl⟩⟩
theorem fld124_1 : Fld Tryd.prog 124 1 32 := ⟨⟨_, _, 33, Tryd.underlying124, rfl, by kernel_rfl, rfl⟩⟩
theorem eqE0 : EqV Tryd.prog 2 26 (32 * 1) (fun xs => xs.length = 32 * 1 ∧ ∀ i, i < 32 → ∃ n, (xs.drop (i * 1)).take 1 = [Value.int .u8 n]) agV := EqV.arr (n := 32) (EqV.int .u8 Tryd.underlying5 (by kernel_rfl)) Tryd.underlying26 (by kernel_rfl)
theorem eqE (x y : Ent) : EqW Tryd.prog 3 28 34 (eArr x) (eArr y) := ⟨_, EqV.struct' [(1, (fun xs => ∃ n, xs = [Value.int .i64 n])), (32 * 1, (fun xs => xs.length = 32 * 1 ∧ ∀ i, i < 32 → ∃ n, (xs.drop (i * 1)).take 1 = [Value.int .u8 n])), (1, (fun xs => ∃ n, xs = [Value.int .i64 n]))] Tryd.underlying28 (by kernel_rfl) (by kernel_rfl) ⟨by decide, ⟨hd1, (EqV.int .i64 Tryd.underlying3 (by kernel_rfl)).up⟩, by decide, ⟨agV, eqE0⟩, by decide, ⟨hd1, (EqV.int .i64 Tryd.underlying3 (by kernel_rfl)).up⟩, trivial⟩ ⟨rfl, rfl, rfl, rfl⟩, ⟨by rw [Array.length_toList, eArr_size], ⟨_, eArr_f0 _⟩, (by show _ ∧ _; unfold cutF; dsimp only; rw [eArr_f1]; exact bytesV _ _), ⟨_, eArr_f2 _⟩, trivial⟩, ⟨by rw [Array.length_toList, eArr_size], ⟨_, eArr_f0 _⟩, (by show _ ∧ _; unfold cutF; dsimp only; rw [eArr_f1]; exact bytesV _ _), ⟨_, eArr_f2 _⟩, trivial⟩⟩
theorem sttE : Stt Tryd.prog 28 eZ := ⟨⟨_, Tryd.underlying28, rfl, fun i f hf => by
  match i, hf with
  | 0, hf => cases hf; exact ⟨_, rfl, by kernel_rfl, rfl⟩
  | 1, hf => cases hf; exact ⟨_, rfl, by kernel_rfl, rfl⟩
  | 2, hf => cases hf; exact ⟨_, rfl, by kernel_rfl, rfl⟩
  | i + 3, hf => simp at hf⟩, by kernel_rfl⟩
theorem sttG : Stt Tryd.prog 41 tgZ := ⟨⟨_, Tryd.underlying41, rfl, fun i f hf => by
  match i, hf with
  | 0, hf => cases hf; exact ⟨_, rfl, by kernel_rfl, rfl⟩
  | 1, hf => cases hf; exact ⟨_, rfl, by kernel_rfl, rfl⟩
  | 2, hf => cases hf; exact ⟨_, rfl, by kernel_rfl, rfl⟩
  | i + 3, hf => simp at hf⟩, by kernel_rfl⟩
theorem eqG (x y : Tg) : EqW Tryd.prog 4 41 67 (tgArr x) (tgArr y) := by
  obtain ⟨V, E9, h1, h2⟩ := eqE x.2.1 y.2.1
  exact ⟨_, EqV.struct' [(32 * 1, (fun xs => xs.length = 32 * 1 ∧ ∀ i, i < 32 → ∃ n, (xs.drop (i * 1)).take 1 = [Value.int .u8 n])), (34, V), (1, (fun xs => ∃ n, xs = [Value.int .i64 n]))] Tryd.underlying41 (by kernel_rfl) (by kernel_rfl) ⟨by decide, ⟨agV, eqE0.up⟩, by decide, ⟨agV, E9⟩, by decide, ⟨hd1, (EqV.int .i64 Tryd.underlying3 (by kernel_rfl)).up.up⟩, trivial⟩ ⟨rfl, rfl, rfl, rfl⟩, ⟨by rw [Array.length_toList, tgArr_size], (by show _ ∧ _; unfold cutF; dsimp only; rw [tg_f0]; exact bytesV _ _), (by show V (cutF _ _ _); unfold cutF; dsimp only; rw [tg_f1]; exact h1), ⟨_, tg_f2 _⟩, trivial⟩, ⟨by rw [Array.length_toList, tgArr_size], (by show _ ∧ _; unfold cutF; dsimp only; rw [tg_f0]; exact bytesV _ _), (by show V (cutF _ _ _); unfold cutF; dsimp only; rw [tg_f1]; exact h2), ⟨_, tg_f2 _⟩, trivial⟩⟩
theorem sttM : Stt Tryd.prog 31 mZs := ⟨⟨_, Tryd.underlying31, rfl, fun i f hf => by
  match i, hf with
  | 0, hf => cases hf; exact ⟨_, rfl, by kernel_rfl, rfl⟩
  | 1, hf => cases hf; exact ⟨_, rfl, by kernel_rfl, rfl⟩
  | 2, hf => cases hf; exact ⟨_, rfl, by kernel_rfl, rfl⟩
  | 3, hf => cases hf; exact ⟨_, rfl, by kernel_rfl, rfl⟩
  | 4, hf => cases hf; exact ⟨_, rfl, by kernel_rfl, rfl⟩
  | 5, hf => cases hf; exact ⟨_, rfl, by kernel_rfl, rfl⟩
  | 6, hf => cases hf; exact ⟨_, rfl, by kernel_rfl, rfl⟩
  | i + 7, hf => simp at hf⟩, by kernel_rfl⟩
theorem eqK0 : EqV Tryd.prog 2 70 (16 * 1) (fun xs => xs.length = 16 * 1 ∧ ∀ i, i < 16 → ∃ n, (xs.drop (i * 1)).take 1 = [Value.int .u8 n]) agV := EqV.arr (n := 16) (EqV.int .u8 Tryd.underlying5 (by kernel_rfl)) Tryd.underlying70 (by kernel_rfl)
theorem eqK (x y : Key) : EqW Tryd.prog 2 70 (16 * 1) (kArr x) (kArr y) := ⟨_, eqK0, bytesV _ _, bytesV _ _⟩
theorem sttF : Stt Tryd.prog 62 fZ := ⟨⟨_, Tryd.underlying62, rfl, fun i f hf => by
  match i, hf with
  | 0, hf => cases hf; exact ⟨_, rfl, by kernel_rfl, rfl⟩
  | 1, hf => cases hf; exact ⟨_, rfl, by kernel_rfl, rfl⟩
  | 2, hf => cases hf; exact ⟨_, rfl, by kernel_rfl, rfl⟩
  | 3, hf => cases hf; exact ⟨_, rfl, by kernel_rfl, rfl⟩
  | 4, hf => cases hf; exact ⟨_, rfl, by kernel_rfl, rfl⟩
  | 5, hf => cases hf; exact ⟨_, rfl, by kernel_rfl, rfl⟩
  | i + 6, hf => simp at hf⟩, by kernel_rfl⟩
theorem sttP : Stt Tryd.prog 104 pkZ := ⟨⟨_, Tryd.underlying104, rfl, fun i f hf => by
  match i, hf with
  | 0, hf => cases hf; exact ⟨_, rfl, by kernel_rfl, rfl⟩
  | 1, hf => cases hf; exact ⟨_, rfl, by kernel_rfl, rfl⟩
  | 2, hf => cases hf; exact ⟨_, rfl, by kernel_rfl, rfl⟩
  | i + 3, hf => simp at hf⟩, by kernel_rfl⟩
theorem sttO : Stt Tryd.prog 111 otZ := ⟨⟨_, Tryd.underlying111, rfl, fun i f hf => by
  match i, hf with
  | 0, hf => cases hf; exact ⟨_, rfl, by kernel_rfl, rfl⟩
  | 1, hf => cases hf; exact ⟨_, rfl, by kernel_rfl, rfl⟩
  | 2, hf => cases hf; exact ⟨_, rfl, by kernel_rfl, rfl⟩
  | 3, hf => cases hf; exact ⟨_, rfl, by kernel_rfl, rfl⟩
  | 4, hf => cases hf; exact ⟨_, rfl, by kernel_rfl, rfl⟩
  | i + 5, hf => simp at hf⟩, by kernel_rfl⟩
theorem sttSv : Stt Tryd.prog 24 svZ := ⟨⟨_, Tryd.underlying24, rfl, fun i f hf => by
  match i, hf with
  | 0, hf => cases hf; exact ⟨_, rfl, by kernel_rfl, rfl⟩
  | 1, hf => cases hf; exact ⟨_, rfl, by kernel_rfl, rfl⟩
  | 2, hf => cases hf; exact ⟨_, rfl, by kernel_rfl, rfl⟩
  | i + 3, hf => simp at hf⟩, by kernel_rfl⟩
theorem sttSe : Stt Tryd.prog 43 seZ := ⟨⟨_, Tryd.underlying43, rfl, fun i f hf => by
  match i, hf with
  | 0, hf => cases hf; exact ⟨_, rfl, by kernel_rfl, rfl⟩
  | 1, hf => cases hf; exact ⟨_, rfl, by kernel_rfl, rfl⟩
  | 2, hf => cases hf; exact ⟨_, rfl, by kernel_rfl, rfl⟩
  | i + 3, hf => simp at hf⟩, by kernel_rfl⟩
theorem sttCl : Stt Tryd.prog 77 clZ := ⟨⟨_, Tryd.underlying77, rfl, fun i f hf => by
  match i, hf with
  | 0, hf => cases hf; exact ⟨_, rfl, by kernel_rfl, rfl⟩
  | i + 1, hf => simp at hf⟩, by kernel_rfl⟩
theorem sttPc : Stt Tryd.prog 78 clZ := ⟨⟨_, Tryd.underlying78, rfl, fun i f hf => by
  match i, hf with
  | 0, hf => cases hf; exact ⟨_, rfl, by kernel_rfl, rfl⟩
  | i + 1, hf => simp at hf⟩, by kernel_rfl⟩
theorem sttOt : Stt Tryd.prog 83 ([] : List (List Value)) := ⟨⟨_, Tryd.underlying83, rfl, fun i f hf => by
  match i, hf with

  | i + 0, hf => simp at hf⟩, by kernel_rfl⟩
theorem size5 : (Tryd.prog.info? 5).map (·.size) = some 1 := by kernel_rfl
theorem size9 : (Tryd.prog.info? 9).map (·.size) = some 1 := by kernel_rfl
theorem size87 : (Tryd.prog.info? 87).map (·.size) = some 1 := by kernel_rfl
theorem size122 : (Tryd.prog.info? 122).map (·.size) = some 1 := by kernel_rfl
theorem zero24 : (Tryd.prog.info? 24).bind (·.zero) = some (.agg (svArr 0 ByteArray.empty nilV)) := by kernel_rfl
theorem zero26 : (Tryd.prog.info? 26).bind (·.zero) = some (idV 0#256) := idTy.zero
theorem zero28 : (Tryd.prog.info? 28).bind (·.zero) = some (.agg (eArr (0, 0#256, 0))) := by rw [eArr_zero]; kernel_rfl
theorem zero31 : (Tryd.prog.info? 31).bind (·.zero) = some (.agg (mArr mZ nilV)) := by rw [show mArr mZ nilV = mArr mZ (.slice none 0 0) from rfl, mArr_zero]; kernel_rfl
theorem zero41 : (Tryd.prog.info? 41).bind (·.zero) = some (.agg (tgArr zTg)) := by rw [tg_zero]; kernel_rfl
theorem zero62 : (Tryd.prog.info? 62).bind (·.zero) = some (.agg (fArr 0)) := by kernel_rfl
theorem zero70 : (Tryd.prog.info? 70).bind (·.zero) = some (.agg (bytesF (fun _ => 0) 16)) := by rw [show bytesF (fun _ => 0) 16 = (List.replicate 16 (Value.int .u8 0)).toArray from rfl]; kernel_rfl
theorem zero77 : (Tryd.prog.info? 77).bind (·.zero) = some (.agg (mArr mZ nilV)) := by rw [show mArr mZ nilV = mArr mZ (.slice none 0 0) from rfl, mArr_zero]; kernel_rfl
theorem zero78 : (Tryd.prog.info? 78).bind (·.zero) = some (.agg (mArr mZ nilV)) := by rw [show mArr mZ nilV = mArr mZ (.slice none 0 0) from rfl, mArr_zero]; kernel_rfl
theorem zero88 : (Tryd.prog.info? 88).bind (·.zero) = some (.agg (wF (fun _ => 0#32) 8)) := by rw [wF_zero]; kernel_rfl
theorem zero93 : (Tryd.prog.info? 93).bind (·.zero) = some (.agg (bytesF (fun _ => 0) 64)) := by rw [show bytesF (fun _ => 0) 64 = (List.replicate 64 (Value.int .u8 0)).toArray from rfl]; kernel_rfl
theorem zero95 : (Tryd.prog.info? 95).bind (·.zero) = some (.agg (wF (fun _ => 0#32) 64)) := by rw [wF_zero]; kernel_rfl
theorem zero104 : (Tryd.prog.info? 104).bind (·.zero) = some (.agg (pkArr nilV 0 ByteArray.empty)) := by kernel_rfl
theorem zero111 : (Tryd.prog.info? 111).bind (·.zero) = some (.agg (otArr 0 0 nilV 0 ByteArray.empty zTg 0)) := by rw [ot_zero]; kernel_rfl
theorem zero125 : (Tryd.prog.info? 125).bind (·.zero) = some (.agg #[.nilFunc, .nilFunc, .nilFunc, .nilFunc]) := by kernel_rfl
theorem zero127 : (Tryd.prog.info? 127).bind (·.zero) = some (.nilFunc) := by kernel_rfl
theorem zero147 : (Tryd.prog.info? 147).bind (·.zero) = some (.nilFunc) := by kernel_rfl
theorem fnc (n : Nat) (h : (match Tryd.prog.funcs[n]? with | some fn => !fn.body.isNone && !(fn.name == "runtime.NumGoroutine") | none => false) = true) : Fnc Tryd.prog n := by
  cases hf : Tryd.prog.funcs[n]? with
  | none => rw [hf] at h; simp at h
  | some fn => rw [hf] at h; simp only [Bool.and_eq_true, Bool.not_eq_true'] at h; exact ⟨⟨fn, hf, h.1, h.2⟩⟩
theorem elm5 : Elm Tryd.prog 5 1 1 := elm_of (by kernel_rfl) (by decide)
theorem elm9 : Elm Tryd.prog 9 1 16 := elm_of (by kernel_rfl) (by decide)
theorem elm22 : Elm Tryd.prog 22 1 24 := elm_of (by kernel_rfl) (by decide)
theorem elm28 : Elm Tryd.prog 28 34 48 := elm_of (by kernel_rfl) (by decide)
theorem elm29 : Elm Tryd.prog 29 1 24 := elm_of (by kernel_rfl) (by decide)
theorem elm41 : Elm Tryd.prog 41 67 88 := elm_of (by kernel_rfl) (by decide)
theorem elm43 : Elm Tryd.prog 43 139 248 := elm_of (by kernel_rfl) (by decide)
theorem elm111 : Elm Tryd.prog 111 73 160 := elm_of (by kernel_rfl) (by decide)
theorem zcell5 : (Tryd.prog.info? 5).bind (·.zero) = some (.int .u8 0) := by kernel_rfl
theorem fnc6 : Fnc Tryd.prog 6 := fnc 6 (by kernel_rfl)
theorem fnc8 : Fnc Tryd.prog 8 := fnc 8 (by kernel_rfl)
theorem fnc9 : Fnc Tryd.prog 9 := fnc 9 (by kernel_rfl)
theorem fnc11 : Fnc Tryd.prog 11 := fnc 11 (by kernel_rfl)
theorem fnc12 : Fnc Tryd.prog 12 := fnc 12 (by kernel_rfl)
theorem fnc13 : Fnc Tryd.prog 13 := fnc 13 (by kernel_rfl)
theorem fnc14 : Fnc Tryd.prog 14 := fnc 14 (by kernel_rfl)
theorem fnc15 : Fnc Tryd.prog 15 := fnc 15 (by kernel_rfl)
theorem fnc16 : Fnc Tryd.prog 16 := fnc 16 (by kernel_rfl)
theorem fnc17 : Fnc Tryd.prog 17 := fnc 17 (by kernel_rfl)
theorem fnc18 : Fnc Tryd.prog 18 := fnc 18 (by kernel_rfl)
theorem fnc19 : Fnc Tryd.prog 19 := fnc 19 (by kernel_rfl)
theorem fnc20 : Fnc Tryd.prog 20 := fnc 20 (by kernel_rfl)
theorem fnc21 : Fnc Tryd.prog 21 := fnc 21 (by kernel_rfl)
theorem fnc22 : Fnc Tryd.prog 22 := fnc 22 (by kernel_rfl)
theorem fnc23 : Fnc Tryd.prog 23 := fnc 23 (by kernel_rfl)
theorem fnc24 : Fnc Tryd.prog 24 := fnc 24 (by kernel_rfl)
theorem fnc25 : Fnc Tryd.prog 25 := fnc 25 (by kernel_rfl)
theorem fnc26 : Fnc Tryd.prog 26 := fnc 26 (by kernel_rfl)
theorem fnc27 : Fnc Tryd.prog 27 := fnc 27 (by kernel_rfl)
theorem fnc28 : Fnc Tryd.prog 28 := fnc 28 (by kernel_rfl)
theorem fnc29 : Fnc Tryd.prog 29 := fnc 29 (by kernel_rfl)
theorem fnc30 : Fnc Tryd.prog 30 := fnc 30 (by kernel_rfl)
theorem fnc31 : Fnc Tryd.prog 31 := fnc 31 (by kernel_rfl)
theorem fnc32 : Fnc Tryd.prog 32 := fnc 32 (by kernel_rfl)
theorem fnc33 : Fnc Tryd.prog 33 := fnc 33 (by kernel_rfl)
theorem fnc34 : Fnc Tryd.prog 34 := fnc 34 (by kernel_rfl)
theorem fnc35 : Fnc Tryd.prog 35 := fnc 35 (by kernel_rfl)
theorem fnc36 : Fnc Tryd.prog 36 := fnc 36 (by kernel_rfl)
theorem fnc37 : Fnc Tryd.prog 37 := fnc 37 (by kernel_rfl)
theorem fnc38 : Fnc Tryd.prog 38 := fnc 38 (by kernel_rfl)
theorem fnc39 : Fnc Tryd.prog 39 := fnc 39 (by kernel_rfl)
theorem fnc40 : Fnc Tryd.prog 40 := fnc 40 (by kernel_rfl)
theorem fnc41 : Fnc Tryd.prog 41 := fnc 41 (by kernel_rfl)
theorem fnc42 : Fnc Tryd.prog 42 := fnc 42 (by kernel_rfl)
theorem fnc43 : Fnc Tryd.prog 43 := fnc 43 (by kernel_rfl)
theorem fnc44 : Fnc Tryd.prog 44 := fnc 44 (by kernel_rfl)
theorem fnc45 : Fnc Tryd.prog 45 := fnc 45 (by kernel_rfl)
theorem fnc46 : Fnc Tryd.prog 46 := fnc 46 (by kernel_rfl)
theorem fnc47 : Fnc Tryd.prog 47 := fnc 47 (by kernel_rfl)
theorem fnc48 : Fnc Tryd.prog 48 := fnc 48 (by kernel_rfl)
theorem fnc49 : Fnc Tryd.prog 49 := fnc 49 (by kernel_rfl)
theorem fnc50 : Fnc Tryd.prog 50 := fnc 50 (by kernel_rfl)
theorem fnc51 : Fnc Tryd.prog 51 := fnc 51 (by kernel_rfl)
theorem fnc52 : Fnc Tryd.prog 52 := fnc 52 (by kernel_rfl)
theorem fnc53 : Fnc Tryd.prog 53 := fnc 53 (by kernel_rfl)
theorem fnc54 : Fnc Tryd.prog 54 := fnc 54 (by kernel_rfl)
theorem fnc55 : Fnc Tryd.prog 55 := fnc 55 (by kernel_rfl)
theorem fnc56 : Fnc Tryd.prog 56 := fnc 56 (by kernel_rfl)
theorem fnc57 : Fnc Tryd.prog 57 := fnc 57 (by kernel_rfl)
theorem fnc58 : Fnc Tryd.prog 58 := fnc 58 (by kernel_rfl)
theorem fnc59 : Fnc Tryd.prog 59 := fnc 59 (by kernel_rfl)
theorem fnc60 : Fnc Tryd.prog 60 := fnc 60 (by kernel_rfl)
theorem fnc61 : Fnc Tryd.prog 61 := fnc 61 (by kernel_rfl)
theorem fnc62 : Fnc Tryd.prog 62 := fnc 62 (by kernel_rfl)
theorem fnc63 : Fnc Tryd.prog 63 := fnc 63 (by kernel_rfl)
theorem fnc64 : Fnc Tryd.prog 64 := fnc 64 (by kernel_rfl)
theorem fnc65 : Fnc Tryd.prog 65 := fnc 65 (by kernel_rfl)
theorem fnc66 : Fnc Tryd.prog 66 := fnc 66 (by kernel_rfl)
theorem fnc67 : Fnc Tryd.prog 67 := fnc 67 (by kernel_rfl)
theorem fnc68 : Fnc Tryd.prog 68 := fnc 68 (by kernel_rfl)
theorem fnc69 : Fnc Tryd.prog 69 := fnc 69 (by kernel_rfl)
theorem fnc70 : Fnc Tryd.prog 70 := fnc 70 (by kernel_rfl)
theorem fnc71 : Fnc Tryd.prog 71 := fnc 71 (by kernel_rfl)
theorem fnc72 : Fnc Tryd.prog 72 := fnc 72 (by kernel_rfl)
theorem fnc73 : Fnc Tryd.prog 73 := fnc 73 (by kernel_rfl)
theorem fnc74 : Fnc Tryd.prog 74 := fnc 74 (by kernel_rfl)
theorem fnc75 : Fnc Tryd.prog 75 := fnc 75 (by kernel_rfl)
theorem fnc76 : Fnc Tryd.prog 76 := fnc 76 (by kernel_rfl)
theorem fnc77 : Fnc Tryd.prog 77 := fnc 77 (by kernel_rfl)
theorem fnc78 : Fnc Tryd.prog 78 := fnc 78 (by kernel_rfl)
theorem fnc79 : Fnc Tryd.prog 79 := fnc 79 (by kernel_rfl)
theorem fnc80 : Fnc Tryd.prog 80 := fnc 80 (by kernel_rfl)
theorem fnc81 : Fnc Tryd.prog 81 := fnc 81 (by kernel_rfl)
theorem fnc82 : Fnc Tryd.prog 82 := fnc 82 (by kernel_rfl)
theorem fnc83 : Fnc Tryd.prog 83 := fnc 83 (by kernel_rfl)
theorem fnc84 : Fnc Tryd.prog 84 := fnc 84 (by kernel_rfl)
theorem fnc85 : Fnc Tryd.prog 85 := fnc 85 (by kernel_rfl)
theorem fnc86 : Fnc Tryd.prog 86 := fnc 86 (by kernel_rfl)
theorem fnc87 : Fnc Tryd.prog 87 := fnc 87 (by kernel_rfl)
theorem fnc88 : Fnc Tryd.prog 88 := fnc 88 (by kernel_rfl)
theorem fnc89 : Fnc Tryd.prog 89 := fnc 89 (by kernel_rfl)
theorem fnc90 : Fnc Tryd.prog 90 := fnc 90 (by kernel_rfl)
theorem fnc91 : Fnc Tryd.prog 91 := fnc 91 (by kernel_rfl)
theorem fnc92 : Fnc Tryd.prog 92 := fnc 92 (by kernel_rfl)
theorem fnc93 : Fnc Tryd.prog 93 := fnc 93 (by kernel_rfl)
theorem fnc94 : Fnc Tryd.prog 94 := fnc 94 (by kernel_rfl)
def FT9 : List (Nat × Nat × Nat) := [(24, 0, 0), (24, 1, 1), (24, 2, 2), (28, 0, 0), (28, 1, 1), (28, 2, 33), (31, 0, 0), (31, 1, 1), (31, 2, 33), (31, 3, 67), (31, 4, 68), (31, 5, 69), (31, 6, 70), (41, 0, 0), (41, 1, 32), (41, 2, 66), (43, 0, 0), (43, 1, 1), (62, 0, 0), (62, 1, 1), (62, 2, 2), (62, 3, 3), (62, 4, 4), (62, 5, 5), (77, 0, 0), (78, 0, 0), (104, 0, 0), (104, 1, 1), (104, 2, 2), (111, 0, 0), (111, 1, 1), (111, 2, 2), (111, 3, 5), (111, 4, 72), (124, 0, 0), (124, 1, 32)]
theorem hFT9 : FT Tryd.prog FT9 := ⟨fld24_0, fld24_1, fld24_2, fld28_0, fld28_1, fld28_2, fld31_0, fld31_1, fld31_2, fld31_3, fld31_4, fld31_5, fld31_6, fld41_0, fld41_1, fld41_2, fld43_0, fld43_1, fld62_0, fld62_1, fld62_2, fld62_3, fld62_4, fld62_5, fld77_0, fld78_0, fld104_0, fld104_1, fld104_2, fld111_0, fld111_1, fld111_2, fld111_3, fld111_4, fld124_0, fld124_1, trivial⟩
end Go.Proofs.YtobfeflheaobiaaDoor
