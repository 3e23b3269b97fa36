/- Closed facts of the program: the row. -/
import Derived.Test.YthmlflaiidhoiaaGreatDoorCards
import Derived.Test.YthmlflaiidhoiaaGreatDoorTie
import Derived.ProofKit
import Derived.OpenShut
import Derived.JoinedOf
import Derived.LaidMore
import Derived.SevenTiedAt
import Derived.Stop.Joined
import Derived.MakeChecks
import Derived.ChangeMaps5
namespace Go.Proofs.YthmlflaiidhoiaaGreatDoor
open Go.ChangeShapes Go.WideShapes Go.ChangeAt Go.RowKit
theorem jfct0:(Rows.stableTimesRow.wf (OpenSpec.ofChange Rows.stableTimesSpec))=true:=by kernel_rfl
theorem jfct1:(laidOutB Tryz.prog)=true:=by kernel_rfl
theorem jfct2:(mapsRowed Tryz.prog)=true:=by kernel_rfl
theorem jfct3:(Tryz.f3.params.all (Tryz.prog.readableRec ·))=true:=by kernel_rfl
theorem jfct4:(namedTie Tryz.prog Rows.stableTimesRow.named Rows.stableTimesSpec.vars)=true:=by kernel_rfl
theorem jfct5:((Rows.stableTimesRow.stops == []))=true:=by kernel_rfl
theorem jfct6:((Tryz.prog.stops == []))=true:=by kernel_rfl
theorem jfct7:((Rows.stableTimesRow.knobs == []))=true:=by kernel_rfl
theorem jfct8:((Tryz.prog.stopKnobs == []))=true:=by kernel_rfl
theorem jfct9:((Rows.stableTimesRow.inPlace == Tryz.prog.inPlace 3))=true:=by kernel_rfl
theorem jfct10:((Rows.stableTimesRow.unfollowed == Tryz.prog.unfollowed 3))=true:=by kernel_rfl
theorem jfct11:((Rows.stableTimesRow.recurses == Tryz.prog.recurses 3))=true:=by
 unfold Program.recurses
 rw [← show Rows.stableTimesRow.unfollowed=Tryz.prog.unfollowed 3 from eq_of_beq jfct10]
 kernel_rfl
theorem jfct12:((Rows.stableTimesRow.named == Tryz.prog.varsNamed 3))=true:=by kernel_rfl
theorem jfct13:((Rows.stableTimesRow.maps == (Tryz.f3.params.toList ++ Rows.stableTimesSpec.plain.varTypes Tryz.prog).any (Tryz.prog.mapsRec ·)))=true:=by kernel_rfl
theorem jfct14:((Rows.stableTimesRow.ifaces == (Tryz.f3.params.toList ++ Rows.stableTimesSpec.plain.varTypes Tryz.prog).any (Tryz.prog.ifacesRec ·)))=true:=by kernel_rfl
theorem jfct15:((Rows.stableTimesRow.mapsOut == Tryz.prog.mapsAmong Tryz.f3.resultTypes.toList))=true:=by kernel_rfl
theorem jfct16:((Rows.stableTimesRow.loops == (Tryz.f3.params.toList ++ Rows.stableTimesSpec.plain.varTypes Tryz.prog).any (Tryz.prog.loopsFrom ·)))=true:=by kernel_rfl
theorem jfct17:((Rows.stableTimesRow.wideKeys == (Tryz.f3.params.toList ++ Rows.stableTimesSpec.plain.varTypes Tryz.prog ++ Tryz.f3.resultTypes.toList).any (Tryz.prog.wideKeysFrom ·)))=true:=by kernel_rfl
theorem jfct18:(Rows.stableTimesSpec.vars.all (Tryz.prog.varReadable ·))=true:=by kernel_rfl
theorem jfct19:(Tryz.f3.resultTypes.all (fun t => Tryz.prog.readableRec t && decide (t < Tryz.prog.types.size)))=true:=by kernel_rfl
theorem jfct20:((Rows.stableTimesRow.ifacesOut == Tryz.f3.resultTypes.toList.any (Tryz.prog.ifacesRec ·)))=true:=by kernel_rfl
theorem jfct21:((Rows.stableTimesRow.loopsOut == Tryz.f3.resultTypes.toList.any (Tryz.prog.loopsFrom ·)))=true:=by kernel_rfl
theorem jfct22:((Rows.stableTimesRow.plainKeys == Tryz.prog.plainKeys))=true:=by kernel_rfl
theorem jfct23:(Rows.stableTimesRow.shortTexts.isNone)=true:=by kernel_rfl
theorem jfct24:(Tryz.prog.stopsHeard)=true:=by kernel_rfl
theorem jfct25:(Tryz.prog.mayEnter)=true:=by kernel_rfl
theorem jfct26:((Rows.stableTimesRow.lifted == Tryz.prog.liftsFinal))=true:=by kernel_rfl
theorem jfct27:((Tryz.prog.make == some Rows.stableTimesRow.make))=true:=by kernel_rfl
theorem jfct29:((Rows.stableTimesRow.pinned == Rows.stableTimesRow.pinnedBy))=true:=by kernel_rfl
theorem jfct30:((Rows.stableTimesRow.veiled == (Tryz.f3.params.toList ++ Rows.stableTimesSpec.plain.varTypes Tryz.prog ++ Tryz.f3.resultTypes.toList).any (Tryz.prog.veiledRec ·)))=true:=by kernel_rfl
theorem jfct31:(Rows.stableTimesRow.veiledFits Tryz.prog Tryz.f3.params.toList (Tryz.f3.params.toList ++ Rows.stableTimesSpec.plain.varTypes Tryz.prog ++ Tryz.f3.resultTypes.toList))=true:=by kernel_rfl
theorem jfctAll:joinedFacts Tryz.prog 3 Tryz.f3 Rows.stableTimesSpec Rows.stableTimesRow=true:=by
 unfold joinedFacts
 simp only [Bool.and_eq_true]
 refine ⟨⟨⟨⟨⟨⟨⟨⟨⟨⟨⟨⟨⟨⟨⟨⟨⟨⟨⟨⟨⟨⟨⟨⟨⟨⟨⟨⟨⟨⟨⟨?_,?_⟩,?_⟩,?_⟩,?_⟩,?_⟩,?_⟩,?_⟩,?_⟩,?_⟩,?_⟩,?_⟩,?_⟩,?_⟩,?_⟩,?_⟩,?_⟩,?_⟩,?_⟩,?_⟩,?_⟩,?_⟩,?_⟩,?_⟩,?_⟩,?_⟩,?_⟩,?_⟩,?_⟩,?_⟩,?_⟩,?_⟩
 · exact jfct0
 · exact jfct1
 · exact jfct2
 · exact jfct3
 · exact jfct4
 · exact jfct5
 · exact jfct6
 · exact jfct7
 · exact jfct8
 · exact jfct9
 · exact jfct10
 · exact jfct11
 · exact jfct12
 · exact jfct13
 · exact jfct14
 · exact jfct15
 · exact jfct16
 · exact jfct17
 · exact jfct18
 · exact jfct19
 · exact jfct20
 · exact jfct21
 · exact jfct22
 · exact jfct23
 · exact jfct24
 · exact jfct25
 · exact jfct26
 · exact jfct27
 · kernel_rfl
 · exact jfct29
 · exact jfct30
 · exact jfct31
end Go.Proofs.YthmlflaiidhoiaaGreatDoor
