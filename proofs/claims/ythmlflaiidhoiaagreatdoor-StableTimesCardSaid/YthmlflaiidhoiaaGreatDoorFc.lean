/- Closed facts of the program: the function. -/
import Derived.Test.YthmlflaiidhoiaaGreatDoorCards
import Derived.Test.YthmlflaiidhoiaaGreatDoorTie
import Derived.ProofKit
import Derived.OpenShut
import Derived.JoinedOf
import Derived.LaidMore
import Derived.SevenTiedAt
import Derived.Stop.Joined
import Derived.MakeChecks
import Derived.ChangeMaps5
namespace Go.Proofs.YthmlflaiidhoiaaGreatDoor
open Go.ChangeShapes Go.WideShapes Go.ChangeAt Go.RowKit
theorem jfs1:Tryz.prog.funcNamed Rows.stableTimesRow.func=some 3:=by kernel_rfl
theorem jfs2:Tryz.f3.isInstance Tryz.prog Rows.stableTimesRow.origin Rows.stableTimesRow.targs:=of_decide_eq_true (by kernel_rfl)
theorem jfs3:Tryz.f3.isWrapper Tryz.prog Rows.stableTimesRow.wrapper Rows.stableTimesRow.mainSum:=by unfold Func.isWrapper;first|(rw [if_pos (by decide +kernel)];kernel_rfl)|(rw [if_neg (by decide +kernel)];exact ⟨rfl,rfl⟩)
end Go.Proofs.YthmlflaiidhoiaaGreatDoor
