/- Closed facts of the program: the function. -/
import Derived.Test.YtkhepdpfdhdlaaaGreatDoorCards
import Derived.Test.YtkhepdpfdhdlaaaGreatDoorTie
import Derived.ProofKit
import Derived.OpenShut
import Derived.JoinedOf
import Derived.LaidMore
import Derived.SevenTiedAt
import Derived.Stop.Joined
import Derived.MakeChecks
import Derived.ChangeMaps5
namespace Go.Proofs.YtkhepdpfdhdlaaaGreatDoor
open Go.ChangeShapes Go.WideShapes Go.ChangeAt Go.RowKit
theorem jfs1:Tryz.prog.funcNamed Rows.worldSendsRow.func=some 5:=by kernel_rfl
theorem jfs2:Tryz.f5.isInstance Tryz.prog Rows.worldSendsRow.origin Rows.worldSendsRow.targs:=of_decide_eq_true (by kernel_rfl)
theorem jfs3:Tryz.f5.isWrapper Tryz.prog Rows.worldSendsRow.wrapper Rows.worldSendsRow.mainSum:=by unfold Func.isWrapper;first|(rw [if_pos (by decide +kernel)];kernel_rfl)|(rw [if_neg (by decide +kernel)];exact ⟨rfl,rfl⟩)
end Go.Proofs.YtkhepdpfdhdlaaaGreatDoor
