/- What the walks want of the program: its types and functions by number; no condition. -/
import Derived.Test.YtgibljbfepaniaaDoorProg
import Derived.KernelRfl
import Derived.Test.YtgibljbfepaniaaDoorDg
namespace Go.Proofs.YtgibljbfepaniaaDoor
theorem idTy : IdTy Tryd.prog 31 5 := ⟨Tryd.underlying31, by kernel_rfl, Tryd.underlying5, by kernel_rfl, by rw [idV, idArr_zero]; kernel_rfl⟩
theorem row31 : Row Tryd.prog 31 32 := ⟨⟨_, Tryd.underlying31, rfl⟩, by kernel_rfl⟩
theorem row46 : Row Tryd.prog 46 8 := ⟨⟨_, Tryd.underlying46, rfl⟩, by kernel_rfl⟩
theorem row51 : Row Tryd.prog 51 64 := ⟨⟨_, Tryd.underlying51, rfl⟩, by kernel_rfl⟩
theorem row53 : Row Tryd.prog 53 64 := ⟨⟨_, Tryd.underlying53, rfl⟩, by kernel_rfl⟩
theorem one5 : One Tryd.prog 5 := ⟨⟨_, Tryd.underlying5, rfl⟩, by kernel_rfl⟩
theorem one9 : One Tryd.prog 9 := ⟨⟨_, Tryd.underlying9, rfl⟩, by kernel_rfl⟩
theorem one28 : One Tryd.prog 28 := ⟨⟨_, Tryd.underlying28, rfl⟩, by kernel_rfl⟩
theorem one45 : One Tryd.prog 45 := ⟨⟨_, Tryd.underlying45, rfl⟩, by kernel_rfl⟩
theorem size5 : (Tryd.prog.info? 5).map (·.size) = some 1 := by kernel_rfl
theorem size9 : (Tryd.prog.info? 9).map (·.size) = some 1 := by kernel_rfl
theorem size45 : (Tryd.prog.info? 45).map (·.size) = some 1 := by kernel_rfl
theorem zero31 : (Tryd.prog.info? 31).bind (·.zero) = some (idV 0#256) := idTy.zero
theorem zero46 : (Tryd.prog.info? 46).bind (·.zero) = some (.agg (wF (fun _ => 0#32) 8)) := by rw [wF_zero]; kernel_rfl
theorem zero51 : (Tryd.prog.info? 51).bind (·.zero) = some (.agg (bytesF (fun _ => 0) 64)) := by rw [show bytesF (fun _ => 0) 64 = (List.replicate 64 (Value.int .u8 0)).toArray from rfl]; kernel_rfl
theorem zero53 : (Tryd.prog.info? 53).bind (·.zero) = some (.agg (wF (fun _ => 0#32) 64)) := by rw [wF_zero]; kernel_rfl
theorem fnc (n : Nat) (h : (match Tryd.prog.funcs[n]? with | some fn => !fn.body.isNone && !(fn.name == "runtime.NumGoroutine") | none => false) = true) : Fnc Tryd.prog n := by
  cases hf : Tryd.prog.funcs[n]? with
  | none => rw [hf] at h; simp at h
  | some fn => rw [hf] at h; simp only [Bool.and_eq_true, Bool.not_eq_true'] at h; exact ⟨⟨fn, hf, h.1, h.2⟩⟩
theorem elm5 : Elm Tryd.prog 5 1 1 := ⟨⟨_, _, rfl, rfl, by kernel_rfl, by kernel_rfl, by kernel_rfl⟩, by decide⟩
theorem elm9 : Elm Tryd.prog 9 1 16 := ⟨⟨_, _, rfl, rfl, by kernel_rfl, by kernel_rfl, by kernel_rfl⟩, by decide⟩
theorem zcell5 : (Tryd.prog.info? 5).bind (·.zero) = some (.int .u8 0) := by kernel_rfl
theorem fnc5 : Fnc Tryd.prog 5 := fnc 5 (by kernel_rfl)
theorem fnc6 : Fnc Tryd.prog 6 := fnc 6 (by kernel_rfl)
theorem fnc7 : Fnc Tryd.prog 7 := fnc 7 (by kernel_rfl)
theorem fnc8 : Fnc Tryd.prog 8 := fnc 8 (by kernel_rfl)
theorem fnc9 : Fnc Tryd.prog 9 := fnc 9 (by kernel_rfl)
theorem fnc13 : Fnc Tryd.prog 13 := fnc 13 (by kernel_rfl)
theorem fnc14 : Fnc Tryd.prog 14 := fnc 14 (by kernel_rfl)
theorem fnc15 : Fnc Tryd.prog 15 := fnc 15 (by kernel_rfl)
theorem fnc16 : Fnc Tryd.prog 16 := fnc 16 (by kernel_rfl)
theorem fnc19 : Fnc Tryd.prog 19 := fnc 19 (by kernel_rfl)
theorem fnc20 : Fnc Tryd.prog 20 := fnc 20 (by kernel_rfl)
theorem fnc21 : Fnc Tryd.prog 21 := fnc 21 (by kernel_rfl)
theorem fnc24 : Fnc Tryd.prog 24 := fnc 24 (by kernel_rfl)
end Go.Proofs.YtgibljbfepaniaaDoor
