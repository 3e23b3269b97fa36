/-
  DERIVED. GIVEN WITH THE SEED: THE CARDS: each row of YtcnnlakcpcofkaaDoorRows.lean that lists a variable, with what it lists TIED to the program's text (the seventh form; the later family's looks); each row that meets fmt, with fmt's text TOLD by the authors' own Lean function (tested against real Go, not proved from fmt's source: count such statements apart). THE CARD IS WHAT COUNTS. Prove the row's statement (the work); the ties are given (YtcnnlakcpcofkaaDoorTie.lean); close each card by the builder's one call (the guide's Derived/Test/ToyasCard.lean, 'card_holds'). Laid BY PROGRAM, IN A SANDBOX (cutbox-door.mjs). By AI agents, Wed Nov 11 2026. No macro, syntax, notation, axiom, sorry.
-/
import Derived.Test.YtcnnlakcpcofkaaDoorRows
import GoSem.ClaimSeven
namespace Go.Proofs.YtcnnlakcpcofkaaDoor
namespace Rows

/-- THE TIED CARD OF 'posthouselaw15.GuardJudges'. -/
def guardJudgesCard : Claim7 := { stood := { row := guardJudgesRow, standIns := [], harness := (true, "e5960134bf0114f100ef5adf55b837c934b85844a1c2e03b05ddaa22b14b9884"), looks := false }, kinds := [], alts := [], laidByText := true, laidKinds := [.data, .data], laidTests := true, laidLooks := .later }
def GuardJudgesCardSaid : Prop := Claim7.holds Tryd.pinned (.plain (OpenSpec.ofChange guardJudgesSpec)) guardJudgesCard

/-- THE TIED CARD OF 'posthouselaw15.GuardEchoes'. -/
def guardEchoesCard : Claim7 := { stood := { row := guardEchoesRow, standIns := [], harness := (true, "e5960134bf0114f100ef5adf55b837c934b85844a1c2e03b05ddaa22b14b9884"), looks := false }, kinds := [], alts := [], laidByText := true, laidKinds := [.data, .data], laidTests := true, laidLooks := .later }
def GuardEchoesCardSaid : Prop := Claim7.holds Tryd.pinned (.plain (OpenSpec.ofChange guardEchoesSpec)) guardEchoesCard

/-- THE TIED CARD OF 'posthouselaw15.GuardLinks'. -/
def guardLinksCard : Claim7 := { stood := { row := guardLinksRow, standIns := [], harness := (true, "e5960134bf0114f100ef5adf55b837c934b85844a1c2e03b05ddaa22b14b9884"), looks := false }, kinds := [], alts := [], laidByText := true, laidKinds := [.data, .data], laidTests := true, laidLooks := .later }
def GuardLinksCardSaid : Prop := Claim7.holds Tryd.pinned (.plain (OpenSpec.ofChange guardLinksSpec)) guardLinksCard

/-- THE TIED CARD OF 'posthouselaw15.GuardSecrets'. -/
def guardSecretsCard : Claim7 := { stood := { row := guardSecretsRow, standIns := [], harness := (true, "e5960134bf0114f100ef5adf55b837c934b85844a1c2e03b05ddaa22b14b9884"), looks := false }, kinds := [], alts := [], laidByText := true, laidKinds := [.data, .data], laidTests := true, laidLooks := .later }
def GuardSecretsCardSaid : Prop := Claim7.holds Tryd.pinned (.plain (OpenSpec.ofChange guardSecretsSpec)) guardSecretsCard

/-- THE SECOND FORM's CARD OF 'posthouselaw15.GuardJudges'. -/
def guardJudgesUptoCard : Claim7 := { stood := { row := guardJudgesUptoRow, standIns := [], harness := (true, "e5960134bf0114f100ef5adf55b837c934b85844a1c2e03b05ddaa22b14b9884"), looks := false }, kinds := [], alts := [], laidByText := true, laidKinds := [.data, .data], laidTests := true, laidLooks := .later }
def GuardJudgesUptoCardSaid : Prop := Claim7.holds Tryd.pinned (.plain (OpenSpec.upto guardJudgesSpec)) guardJudgesUptoCard

/-- THE SECOND FORM's CARD OF 'posthouselaw15.GuardEchoes'. -/
def guardEchoesUptoCard : Claim7 := { stood := { row := guardEchoesUptoRow, standIns := [], harness := (true, "e5960134bf0114f100ef5adf55b837c934b85844a1c2e03b05ddaa22b14b9884"), looks := false }, kinds := [], alts := [], laidByText := true, laidKinds := [.data, .data], laidTests := true, laidLooks := .later }
def GuardEchoesUptoCardSaid : Prop := Claim7.holds Tryd.pinned (.plain (OpenSpec.upto guardEchoesSpec)) guardEchoesUptoCard

/-- THE SECOND FORM's CARD OF 'posthouselaw15.GuardLinks'. -/
def guardLinksUptoCard : Claim7 := { stood := { row := guardLinksUptoRow, standIns := [], harness := (true, "e5960134bf0114f100ef5adf55b837c934b85844a1c2e03b05ddaa22b14b9884"), looks := false }, kinds := [], alts := [], laidByText := true, laidKinds := [.data, .data], laidTests := true, laidLooks := .later }
def GuardLinksUptoCardSaid : Prop := Claim7.holds Tryd.pinned (.plain (OpenSpec.upto guardLinksSpec)) guardLinksUptoCard

/-- THE SECOND FORM's CARD OF 'posthouselaw15.GuardSecrets'. -/
def guardSecretsUptoCard : Claim7 := { stood := { row := guardSecretsUptoRow, standIns := [], harness := (true, "e5960134bf0114f100ef5adf55b837c934b85844a1c2e03b05ddaa22b14b9884"), looks := false }, kinds := [], alts := [], laidByText := true, laidKinds := [.data, .data], laidTests := true, laidLooks := .later }
def GuardSecretsUptoCardSaid : Prop := Claim7.holds Tryd.pinned (.plain (OpenSpec.upto guardSecretsSpec)) guardSecretsUptoCard
end Rows
end Go.Proofs.YtcnnlakcpcofkaaDoor
