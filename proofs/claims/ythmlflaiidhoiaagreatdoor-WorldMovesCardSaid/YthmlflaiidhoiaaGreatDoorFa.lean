/- Closed facts of the program: the row. -/
import Derived.Test.YthmlflaiidhoiaaGreatDoorCards
import Derived.Test.YthmlflaiidhoiaaGreatDoorTie
import Derived.ProofKit
import Derived.OpenShut
import Derived.JoinedOf
import Derived.LaidMore
import Derived.SevenTiedAt
import Derived.Stop.Joined
import Derived.MakeChecks
import Derived.ChangeMaps5
namespace Go.Proofs.YthmlflaiidhoiaaGreatDoor
open Go.ChangeShapes Go.WideShapes Go.ChangeAt Go.RowKit
theorem jfct0:(Rows.worldMovesRow.wf (OpenSpec.ofChange Rows.worldMovesSpec))=true:=by kernel_rfl
theorem jfct1:(laidOutB Tryz.prog)=true:=by kernel_rfl
theorem jfct2:(mapsRowed Tryz.prog)=true:=by kernel_rfl
theorem jfct3:(Tryz.f4.params.all (Tryz.prog.readableRec ·))=true:=by kernel_rfl
theorem jfct4:(namedTie Tryz.prog Rows.worldMovesRow.named Rows.worldMovesSpec.vars)=true:=by kernel_rfl
theorem jfct5:((Rows.worldMovesRow.stops == []))=true:=by kernel_rfl
theorem jfct6:((Tryz.prog.stops == []))=true:=by kernel_rfl
theorem jfct7:((Rows.worldMovesRow.knobs == []))=true:=by kernel_rfl
theorem jfct8:((Tryz.prog.stopKnobs == []))=true:=by kernel_rfl
theorem jfct9:((Rows.worldMovesRow.inPlace == Tryz.prog.inPlace 4))=true:=by kernel_rfl
theorem jfct10:((Rows.worldMovesRow.unfollowed == Tryz.prog.unfollowed 4))=true:=by kernel_rfl
theorem jfct11:((Rows.worldMovesRow.recurses == Tryz.prog.recurses 4))=true:=by
 unfold Program.recurses
 rw [← show Rows.worldMovesRow.unfollowed=Tryz.prog.unfollowed 4 from eq_of_beq jfct10]
 kernel_rfl
theorem jfct12:((Rows.worldMovesRow.named == Tryz.prog.varsNamed 4))=true:=by kernel_rfl
theorem jfct13:((Rows.worldMovesRow.maps == (Tryz.f4.params.toList ++ Rows.worldMovesSpec.plain.varTypes Tryz.prog).any (Tryz.prog.mapsRec ·)))=true:=by kernel_rfl
theorem jfct14:((Rows.worldMovesRow.ifaces == (Tryz.f4.params.toList ++ Rows.worldMovesSpec.plain.varTypes Tryz.prog).any (Tryz.prog.ifacesRec ·)))=true:=by kernel_rfl
theorem jfct15:((Rows.worldMovesRow.mapsOut == Tryz.prog.mapsAmong Tryz.f4.resultTypes.toList))=true:=by kernel_rfl
theorem jfct16:((Rows.worldMovesRow.loops == (Tryz.f4.params.toList ++ Rows.worldMovesSpec.plain.varTypes Tryz.prog).any (Tryz.prog.loopsFrom ·)))=true:=by kernel_rfl
theorem jfct17:((Rows.worldMovesRow.wideKeys == (Tryz.f4.params.toList ++ Rows.worldMovesSpec.plain.varTypes Tryz.prog ++ Tryz.f4.resultTypes.toList).any (Tryz.prog.wideKeysFrom ·)))=true:=by kernel_rfl
theorem jfct18:(Rows.worldMovesSpec.vars.all (Tryz.prog.varReadable ·))=true:=by kernel_rfl
theorem jfct19:(Tryz.f4.resultTypes.all (fun t => Tryz.prog.readableRec t && decide (t < Tryz.prog.types.size)))=true:=by kernel_rfl
theorem jfct20:((Rows.worldMovesRow.ifacesOut == Tryz.f4.resultTypes.toList.any (Tryz.prog.ifacesRec ·)))=true:=by kernel_rfl
theorem jfct21:((Rows.worldMovesRow.loopsOut == Tryz.f4.resultTypes.toList.any (Tryz.prog.loopsFrom ·)))=true:=by kernel_rfl
theorem jfct22:((Rows.worldMovesRow.plainKeys == Tryz.prog.plainKeys))=true:=by kernel_rfl
theorem jfct23:(Rows.worldMovesRow.shortTexts.isNone)=true:=by kernel_rfl
theorem jfct24:(Tryz.prog.stopsHeard)=true:=by kernel_rfl
theorem jfct25:(Tryz.prog.mayEnter)=true:=by kernel_rfl
theorem jfct26:((Rows.worldMovesRow.lifted == Tryz.prog.liftsFinal))=true:=by kernel_rfl
theorem jfct27:((Tryz.prog.make == some Rows.worldMovesRow.make))=true:=by kernel_rfl
theorem jfct29:((Rows.worldMovesRow.pinned == Rows.worldMovesRow.pinnedBy))=true:=by kernel_rfl
theorem jfct30:((Rows.worldMovesRow.veiled == (Tryz.f4.params.toList ++ Rows.worldMovesSpec.plain.varTypes Tryz.prog ++ Tryz.f4.resultTypes.toList).any (Tryz.prog.veiledRec ·)))=true:=by kernel_rfl
theorem jfct31:(Rows.worldMovesRow.veiledFits Tryz.prog Tryz.f4.params.toList (Tryz.f4.params.toList ++ Rows.worldMovesSpec.plain.varTypes Tryz.prog ++ Tryz.f4.resultTypes.toList))=true:=by kernel_rfl
theorem jfctAll:joinedFacts Tryz.prog 4 Tryz.f4 Rows.worldMovesSpec Rows.worldMovesRow=true:=by
 unfold joinedFacts
 simp only [Bool.and_eq_true]
 refine ⟨⟨⟨⟨⟨⟨⟨⟨⟨⟨⟨⟨⟨⟨⟨⟨⟨⟨⟨⟨⟨⟨⟨⟨⟨⟨⟨⟨⟨⟨⟨?_,?_⟩,?_⟩,?_⟩,?_⟩,?_⟩,?_⟩,?_⟩,?_⟩,?_⟩,?_⟩,?_⟩,?_⟩,?_⟩,?_⟩,?_⟩,?_⟩,?_⟩,?_⟩,?_⟩,?_⟩,?_⟩,?_⟩,?_⟩,?_⟩,?_⟩,?_⟩,?_⟩,?_⟩,?_⟩,?_⟩,?_⟩
 · exact jfct0
 · exact jfct1
 · exact jfct2
 · exact jfct3
 · exact jfct4
 · exact jfct5
 · exact jfct6
 · exact jfct7
 · exact jfct8
 · exact jfct9
 · exact jfct10
 · exact jfct11
 · exact jfct12
 · exact jfct13
 · exact jfct14
 · exact jfct15
 · exact jfct16
 · exact jfct17
 · exact jfct18
 · exact jfct19
 · exact jfct20
 · exact jfct21
 · exact jfct22
 · exact jfct23
 · exact jfct24
 · exact jfct25
 · exact jfct26
 · exact jfct27
 · kernel_rfl
 · exact jfct29
 · exact jfct30
 · exact jfct31
end Go.Proofs.YthmlflaiidhoiaaGreatDoor
