/-
  DERIVED. GIVEN WITH THE SEED: THE CARDS: each row of YtobfeflheaobiaaGreatDoorRows.lean that lists a variable, with what it lists TIED to the program's text (the seventh form; the later family's looks); each row that meets fmt, with fmt's text TOLD by the authors' own Lean function (tested against real Go, not proved from fmt's source: count such statements apart). THE CARD IS WHAT COUNTS. Prove the row's statement (the work); the ties are given (YtobfeflheaobiaaGreatDoorTie.lean); close each card by the builder's one call (the guide's Derived/Test/ToyasCard.lean, 'card_holds'). Laid BY PROGRAM, IN A SANDBOX (cutbox-door.mjs). By AI agents, Wed Nov 11 2026. No macro, syntax, notation, axiom, sorry.
-/
import Derived.Test.YtobfeflheaobiaaGreatDoorRows
import GoSem.ClaimSeven
namespace Go.Proofs.YtobfeflheaobiaaGreatDoor
namespace Rows

/-- THE TIED CARD OF 'posthouselaw16.ServerTakes'. -/
def serverTakesCard : Claim7 := { stood := { row := serverTakesRow, standIns := [], harness := (true, "cccfe7db636cae09c9864dea4ef4020d07e2507d336161364b6ecdbd110c8d83"), looks := true }, kinds := [], alts := [], laidByText := true, laidKinds := [.data, .data], laidTests := true, laidLooks := .later }
def ServerTakesCardSaid : Prop := Claim7.holds Tryz.pinned (.plain (OpenSpec.ofChange serverTakesSpec)) serverTakesCard

/-- THE TIED CARD OF 'posthouselaw16.ServerHands'. -/
def serverHandsCard : Claim7 := { stood := { row := serverHandsRow, standIns := [], harness := (true, "cccfe7db636cae09c9864dea4ef4020d07e2507d336161364b6ecdbd110c8d83"), looks := true }, kinds := [], alts := [], laidByText := true, laidKinds := [.data, .data], laidTests := true, laidLooks := .later }
def ServerHandsCardSaid : Prop := Claim7.holds Tryz.pinned (.plain (OpenSpec.ofChange serverHandsSpec)) serverHandsCard

/-- THE SECOND FORM's CARD OF 'posthouselaw16.ServerTakes'. -/
def serverTakesUptoCard : Claim7 := { stood := { row := serverTakesUptoRow, standIns := [], harness := (true, "cccfe7db636cae09c9864dea4ef4020d07e2507d336161364b6ecdbd110c8d83"), looks := true }, kinds := [], alts := [], laidByText := true, laidKinds := [.data, .data], laidTests := true, laidLooks := .later }
def ServerTakesUptoCardSaid : Prop := Claim7.holds Tryz.pinned (.plain (OpenSpec.upto serverTakesSpec)) serverTakesUptoCard

/-- THE SECOND FORM's CARD OF 'posthouselaw16.ServerHands'. -/
def serverHandsUptoCard : Claim7 := { stood := { row := serverHandsUptoRow, standIns := [], harness := (true, "cccfe7db636cae09c9864dea4ef4020d07e2507d336161364b6ecdbd110c8d83"), looks := true }, kinds := [], alts := [], laidByText := true, laidKinds := [.data, .data], laidTests := true, laidLooks := .later }
def ServerHandsUptoCardSaid : Prop := Claim7.holds Tryz.pinned (.plain (OpenSpec.upto serverHandsSpec)) serverHandsUptoCard
end Rows
end Go.Proofs.YtobfeflheaobiaaGreatDoor
