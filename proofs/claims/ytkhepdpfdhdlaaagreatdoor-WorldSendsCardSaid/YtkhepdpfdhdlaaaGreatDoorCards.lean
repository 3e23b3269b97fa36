/-
  DERIVED. GIVEN WITH THE SEED: THE CARDS: each row of YtkhepdpfdhdlaaaGreatDoorRows.lean that lists a variable, with what it lists TIED to the program's text (the seventh form; the later family's looks); each row that meets fmt, with fmt's text TOLD by the authors' own Lean function (tested against real Go, not proved from fmt's source: count such statements apart). THE CARD IS WHAT COUNTS. Prove the row's statement (the work); the ties are given (YtkhepdpfdhdlaaaGreatDoorTie.lean); close each card by the builder's one call (the guide's Derived/Test/ToyasCard.lean, 'card_holds'). Laid BY PROGRAM, IN A SANDBOX (cutbox-door.mjs). By AI agents, Wed Nov 11 2026. No macro, syntax, notation, axiom, sorry.
-/
import Derived.Test.YtkhepdpfdhdlaaaGreatDoorRows
import GoSem.ClaimSeven
namespace Go.Proofs.YtkhepdpfdhdlaaaGreatDoor
namespace Rows

/-- THE TIED CARD OF 'posthouselaw18.WorldMoves'. -/
def worldMovesCard : Claim7 := { stood := { row := worldMovesRow, standIns := [], harness := (true, "4894acd503a233b080d23c052fc3577bd033e972f5b171901c8919184a23fb19"), looks := true }, kinds := [], alts := [], laidByText := true, laidKinds := [.data, .data], laidTests := true, laidLooks := .later }
def WorldMovesCardSaid : Prop := Claim7.holds Tryz.pinned (.plain (OpenSpec.ofChange worldMovesSpec)) worldMovesCard

/-- THE TIED CARD OF 'posthouselaw18.WorldStill'. -/
def worldStillCard : Claim7 := { stood := { row := worldStillRow, standIns := [], harness := (true, "4894acd503a233b080d23c052fc3577bd033e972f5b171901c8919184a23fb19"), looks := true }, kinds := [], alts := [], laidByText := true, laidKinds := [.data, .data], laidTests := true, laidLooks := .later }
def WorldStillCardSaid : Prop := Claim7.holds Tryz.pinned (.plain (OpenSpec.ofChange worldStillSpec)) worldStillCard

/-- THE TIED CARD OF 'posthouselaw18.WorldSends'. -/
def worldSendsCard : Claim7 := { stood := { row := worldSendsRow, standIns := [], harness := (true, "4894acd503a233b080d23c052fc3577bd033e972f5b171901c8919184a23fb19"), looks := true }, kinds := [], alts := [], laidByText := true, laidKinds := [.data, .data], laidTests := true, laidLooks := .later }
def WorldSendsCardSaid : Prop := Claim7.holds Tryz.pinned (.plain (OpenSpec.ofChange worldSendsSpec)) worldSendsCard

/-- THE SECOND FORM's CARD OF 'posthouselaw18.WorldMoves'. -/
def worldMovesUptoCard : Claim7 := { stood := { row := worldMovesUptoRow, standIns := [], harness := (true, "4894acd503a233b080d23c052fc3577bd033e972f5b171901c8919184a23fb19"), looks := true }, kinds := [], alts := [], laidByText := true, laidKinds := [.data, .data], laidTests := true, laidLooks := .later }
def WorldMovesUptoCardSaid : Prop := Claim7.holds Tryz.pinned (.plain (OpenSpec.upto worldMovesSpec)) worldMovesUptoCard

/-- THE SECOND FORM's CARD OF 'posthouselaw18.WorldStill'. -/
def worldStillUptoCard : Claim7 := { stood := { row := worldStillUptoRow, standIns := [], harness := (true, "4894acd503a233b080d23c052fc3577bd033e972f5b171901c8919184a23fb19"), looks := true }, kinds := [], alts := [], laidByText := true, laidKinds := [.data, .data], laidTests := true, laidLooks := .later }
def WorldStillUptoCardSaid : Prop := Claim7.holds Tryz.pinned (.plain (OpenSpec.upto worldStillSpec)) worldStillUptoCard

/-- THE SECOND FORM's CARD OF 'posthouselaw18.WorldSends'. -/
def worldSendsUptoCard : Claim7 := { stood := { row := worldSendsUptoRow, standIns := [], harness := (true, "4894acd503a233b080d23c052fc3577bd033e972f5b171901c8919184a23fb19"), looks := true }, kinds := [], alts := [], laidByText := true, laidKinds := [.data, .data], laidTests := true, laidLooks := .later }
def WorldSendsUptoCardSaid : Prop := Claim7.holds Tryz.pinned (.plain (OpenSpec.upto worldSendsSpec)) worldSendsUptoCard
end Rows
end Go.Proofs.YtkhepdpfdhdlaaaGreatDoor
