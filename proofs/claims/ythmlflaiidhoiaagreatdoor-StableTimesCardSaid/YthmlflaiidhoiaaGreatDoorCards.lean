/-
  DERIVED. GIVEN WITH THE SEED: THE CARDS: each row of YthmlflaiidhoiaaGreatDoorRows.lean that lists a variable, with what it lists TIED to the program's text (the seventh form; the later family's looks); each row that meets fmt, with fmt's text TOLD by the authors' own Lean function (tested against real Go, not proved from fmt's source: count such statements apart). THE CARD IS WHAT COUNTS. Prove the row's statement (the work); the ties are given (YthmlflaiidhoiaaGreatDoorTie.lean); close each card by the builder's one call (the guide's Derived/Test/ToyasCard.lean, 'card_holds'). Laid BY PROGRAM, IN A SANDBOX (cutbox-door.mjs). By AI agents, Wed Nov 11 2026. No macro, syntax, notation, axiom, sorry.
-/
import Derived.Test.YthmlflaiidhoiaaGreatDoorRows
import GoSem.ClaimSeven
namespace Go.Proofs.YthmlflaiidhoiaaGreatDoor
namespace Rows

/-- THE TIED CARD OF 'posthouselaw19.StableTimes'. -/
def stableTimesCard : Claim7 := { stood := { row := stableTimesRow, standIns := [], harness := (true, "4f42a19161766d0781ad6fb7f0a02d978bcb90608a7eaf74f26081a81099af5c"), looks := true }, kinds := [], alts := [], laidByText := true, laidKinds := [.data, .data], laidTests := true, laidLooks := .later }
def StableTimesCardSaid : Prop := Claim7.holds Tryz.pinned (.plain (OpenSpec.ofChange stableTimesSpec)) stableTimesCard

/-- THE TIED CARD OF 'posthouselaw18.WorldMoves'. -/
def worldMovesCard : Claim7 := { stood := { row := worldMovesRow, standIns := [], harness := (true, "4f42a19161766d0781ad6fb7f0a02d978bcb90608a7eaf74f26081a81099af5c"), looks := true }, kinds := [], alts := [], laidByText := true, laidKinds := [.data, .data], laidTests := true, laidLooks := .later }
def WorldMovesCardSaid : Prop := Claim7.holds Tryz.pinned (.plain (OpenSpec.ofChange worldMovesSpec)) worldMovesCard

/-- THE SECOND FORM's CARD OF 'posthouselaw19.StableTimes'. -/
def stableTimesUptoCard : Claim7 := { stood := { row := stableTimesUptoRow, standIns := [], harness := (true, "4f42a19161766d0781ad6fb7f0a02d978bcb90608a7eaf74f26081a81099af5c"), looks := true }, kinds := [], alts := [], laidByText := true, laidKinds := [.data, .data], laidTests := true, laidLooks := .later }
def StableTimesUptoCardSaid : Prop := Claim7.holds Tryz.pinned (.plain (OpenSpec.upto stableTimesSpec)) stableTimesUptoCard

/-- THE SECOND FORM's CARD OF 'posthouselaw18.WorldMoves'. -/
def worldMovesUptoCard : Claim7 := { stood := { row := worldMovesUptoRow, standIns := [], harness := (true, "4f42a19161766d0781ad6fb7f0a02d978bcb90608a7eaf74f26081a81099af5c"), looks := true }, kinds := [], alts := [], laidByText := true, laidKinds := [.data, .data], laidTests := true, laidLooks := .later }
def WorldMovesUptoCardSaid : Prop := Claim7.holds Tryz.pinned (.plain (OpenSpec.upto worldMovesSpec)) worldMovesUptoCard
end Rows
end Go.Proofs.YthmlflaiidhoiaaGreatDoor
