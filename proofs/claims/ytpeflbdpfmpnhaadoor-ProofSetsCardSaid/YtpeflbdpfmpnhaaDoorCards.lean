/-
  DERIVED. GIVEN WITH THE SEED: THE CARDS: each row of YtpeflbdpfmpnhaaDoorRows.lean that lists a variable, with what it lists TIED to the program's text (the seventh form; the later family's looks); each row that meets fmt, with fmt's text TOLD by the authors' own Lean function (tested against real Go, not proved from fmt's source: count such statements apart). THE CARD IS WHAT COUNTS. Prove the row's statement (the work); the ties are given (YtpeflbdpfmpnhaaDoorTie.lean); close each card by the builder's one call (the guide's Derived/Test/ToyasCard.lean, 'card_holds'). Laid BY PROGRAM, IN A SANDBOX (cutbox-door.mjs). By AI agents, Wed Nov 11 2026. No macro, syntax, notation, axiom, sorry.
-/
import Derived.Test.YtpeflbdpfmpnhaaDoorRows
import GoSem.ClaimSeven
namespace Go.Proofs.YtpeflbdpfmpnhaaDoor
namespace Rows

/-- THE TIED CARD OF 'posthouselaw03.ProofMakes'. -/
def proofMakesCard : Claim7 := { stood := { row := proofMakesRow, standIns := [], harness := (true, "9235770acaddcb23bba9e7838bdc5c637b46972ce82d0b757d83ee82ce66acda"), looks := false }, kinds := [], alts := [], laidByText := true, laidKinds := [.data, .data], laidTests := true, laidLooks := .later }
def ProofMakesCardSaid : Prop := Claim7.holds Tryd.pinned (.plain (OpenSpec.ofChange proofMakesSpec)) proofMakesCard

/-- THE TIED CARD OF 'posthouselaw03.ProofRows'. -/
def proofRowsCard : Claim7 := { stood := { row := proofRowsRow, standIns := [], harness := (true, "9235770acaddcb23bba9e7838bdc5c637b46972ce82d0b757d83ee82ce66acda"), looks := false }, kinds := [], alts := [], laidByText := true, laidKinds := [.data, .data], laidTests := true, laidLooks := .later }
def ProofRowsCardSaid : Prop := Claim7.holds Tryd.pinned (.plain (OpenSpec.ofChange proofRowsSpec)) proofRowsCard

/-- THE TIED CARD OF 'posthouselaw03.ProofKeys'. -/
def proofKeysCard : Claim7 := { stood := { row := proofKeysRow, standIns := [], harness := (true, "9235770acaddcb23bba9e7838bdc5c637b46972ce82d0b757d83ee82ce66acda"), looks := false }, kinds := [], alts := [], laidByText := true, laidKinds := [.data, .data], laidTests := true, laidLooks := .later }
def ProofKeysCardSaid : Prop := Claim7.holds Tryd.pinned (.plain (OpenSpec.ofChange proofKeysSpec)) proofKeysCard

/-- THE TIED CARD OF 'posthouselaw03.ProofSets'. -/
def proofSetsCard : Claim7 := { stood := { row := proofSetsRow, standIns := [], harness := (true, "9235770acaddcb23bba9e7838bdc5c637b46972ce82d0b757d83ee82ce66acda"), looks := false }, kinds := [], alts := [], laidByText := true, laidKinds := [.data, .data], laidTests := true, laidLooks := .later }
def ProofSetsCardSaid : Prop := Claim7.holds Tryd.pinned (.plain (OpenSpec.ofChange proofSetsSpec)) proofSetsCard

/-- THE SECOND FORM's CARD OF 'posthouselaw03.ProofMakes'. -/
def proofMakesUptoCard : Claim7 := { stood := { row := proofMakesUptoRow, standIns := [], harness := (true, "9235770acaddcb23bba9e7838bdc5c637b46972ce82d0b757d83ee82ce66acda"), looks := false }, kinds := [], alts := [], laidByText := true, laidKinds := [.data, .data], laidTests := true, laidLooks := .later }
def ProofMakesUptoCardSaid : Prop := Claim7.holds Tryd.pinned (.plain (OpenSpec.upto proofMakesSpec)) proofMakesUptoCard

/-- THE SECOND FORM's CARD OF 'posthouselaw03.ProofRows'. -/
def proofRowsUptoCard : Claim7 := { stood := { row := proofRowsUptoRow, standIns := [], harness := (true, "9235770acaddcb23bba9e7838bdc5c637b46972ce82d0b757d83ee82ce66acda"), looks := false }, kinds := [], alts := [], laidByText := true, laidKinds := [.data, .data], laidTests := true, laidLooks := .later }
def ProofRowsUptoCardSaid : Prop := Claim7.holds Tryd.pinned (.plain (OpenSpec.upto proofRowsSpec)) proofRowsUptoCard

/-- THE SECOND FORM's CARD OF 'posthouselaw03.ProofKeys'. -/
def proofKeysUptoCard : Claim7 := { stood := { row := proofKeysUptoRow, standIns := [], harness := (true, "9235770acaddcb23bba9e7838bdc5c637b46972ce82d0b757d83ee82ce66acda"), looks := false }, kinds := [], alts := [], laidByText := true, laidKinds := [.data, .data], laidTests := true, laidLooks := .later }
def ProofKeysUptoCardSaid : Prop := Claim7.holds Tryd.pinned (.plain (OpenSpec.upto proofKeysSpec)) proofKeysUptoCard

/-- THE SECOND FORM's CARD OF 'posthouselaw03.ProofSets'. -/
def proofSetsUptoCard : Claim7 := { stood := { row := proofSetsUptoRow, standIns := [], harness := (true, "9235770acaddcb23bba9e7838bdc5c637b46972ce82d0b757d83ee82ce66acda"), looks := false }, kinds := [], alts := [], laidByText := true, laidKinds := [.data, .data], laidTests := true, laidLooks := .later }
def ProofSetsUptoCardSaid : Prop := Claim7.holds Tryd.pinned (.plain (OpenSpec.upto proofSetsSpec)) proofSetsUptoCard
end Rows
end Go.Proofs.YtpeflbdpfmpnhaaDoor
