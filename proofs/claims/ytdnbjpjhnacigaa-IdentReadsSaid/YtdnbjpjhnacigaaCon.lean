/- What the walks want of the program: its types and functions by number; no condition. -/
import Derived.Test.YtdnbjpjhnacigaaProg
import Derived.KernelRfl
import Derived.Test.YtdnbjpjhnacigaaId
namespace Go.Proofs.Ytdnbjpjhnacigaa
theorem idTy : IdTy Try.prog 23 5 := ⟨Try.underlying23, by kernel_rfl, Try.underlying5, by kernel_rfl, by rw [idV, idArr_zero]; kernel_rfl⟩
theorem row23 : Row Try.prog 23 32 := ⟨⟨_, Try.underlying23, rfl⟩, by kernel_rfl⟩
theorem one5 : One Try.prog 5 := ⟨⟨_, Try.underlying5, rfl⟩, by kernel_rfl⟩
theorem size5 : (Try.prog.info? 5).map (·.size) = some 1 := by kernel_rfl
theorem zero23 : (Try.prog.info? 23).bind (·.zero) = some (idV 0#256) := idTy.zero
theorem zero45 : (Try.prog.info? 45).bind (·.zero) = some (.agg (bytesF (fun _ => 0) 64)) := by rw [show bytesF (fun _ => 0) 64 = (List.replicate 64 (Value.int .u8 0)).toArray from rfl]; kernel_rfl
theorem fnc (n : Nat) (h : (match Try.prog.funcs[n]? with | some fn => !fn.body.isNone && !(fn.name == "runtime.NumGoroutine") | none => false) = true) : Fnc Try.prog n := by
  cases hf : Try.prog.funcs[n]? with
  | none => rw [hf] at h; simp at h
  | some fn => rw [hf] at h; simp only [Bool.and_eq_true, Bool.not_eq_true'] at h; exact ⟨⟨fn, hf, h.1, h.2⟩⟩
theorem ext36 : Ext1 Try.prog 36 Extern.BytealgIndexByte.indexByte := ⟨⟨_, Try.func36, by kernel_rfl, by kernel_rfl, by kernel_rfl, by kernel_rfl⟩⟩
theorem elm5 : Elm Try.prog 5 1 1 := ⟨⟨_, _, rfl, rfl, by kernel_rfl, by kernel_rfl, by kernel_rfl⟩, by decide⟩
theorem fnc10 : Fnc Try.prog 10 := fnc 10 (by kernel_rfl)
theorem fnc11 : Fnc Try.prog 11 := fnc 11 (by kernel_rfl)
theorem fnc12 : Fnc Try.prog 12 := fnc 12 (by kernel_rfl)
theorem fnc13 : Fnc Try.prog 13 := fnc 13 (by kernel_rfl)
theorem fnc14 : Fnc Try.prog 14 := fnc 14 (by kernel_rfl)
theorem fnc15 : Fnc Try.prog 15 := fnc 15 (by kernel_rfl)
theorem fnc16 : Fnc Try.prog 16 := fnc 16 (by kernel_rfl)
theorem fnc17 : Fnc Try.prog 17 := fnc 17 (by kernel_rfl)
theorem fnc18 : Fnc Try.prog 18 := fnc 18 (by kernel_rfl)
theorem fnc19 : Fnc Try.prog 19 := fnc 19 (by kernel_rfl)
theorem fnc20 : Fnc Try.prog 20 := fnc 20 (by kernel_rfl)
theorem fnc21 : Fnc Try.prog 21 := fnc 21 (by kernel_rfl)
theorem fnc22 : Fnc Try.prog 22 := fnc 22 (by kernel_rfl)
theorem fnc23 : Fnc Try.prog 23 := fnc 23 (by kernel_rfl)
theorem fnc24 : Fnc Try.prog 24 := fnc 24 (by kernel_rfl)
theorem fnc25 : Fnc Try.prog 25 := fnc 25 (by kernel_rfl)
theorem fnc26 : Fnc Try.prog 26 := fnc 26 (by kernel_rfl)
theorem fnc27 : Fnc Try.prog 27 := fnc 27 (by kernel_rfl)
theorem fnc28 : Fnc Try.prog 28 := fnc 28 (by kernel_rfl)
theorem fnc29 : Fnc Try.prog 29 := fnc 29 (by kernel_rfl)
theorem fnc30 : Fnc Try.prog 30 := fnc 30 (by kernel_rfl)
theorem fnc31 : Fnc Try.prog 31 := fnc 31 (by kernel_rfl)
theorem fnc32 : Fnc Try.prog 32 := fnc 32 (by kernel_rfl)
theorem fnc33 : Fnc Try.prog 33 := fnc 33 (by kernel_rfl)
theorem fnc34 : Fnc Try.prog 34 := fnc 34 (by kernel_rfl)
theorem fnc35 : Fnc Try.prog 35 := fnc 35 (by kernel_rfl)
end Go.Proofs.Ytdnbjpjhnacigaa
