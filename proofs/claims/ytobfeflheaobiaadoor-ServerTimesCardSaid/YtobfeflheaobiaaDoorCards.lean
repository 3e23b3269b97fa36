/-
  DERIVED. GIVEN WITH THE SEED: THE CARDS: each row of YtobfeflheaobiaaDoorRows.lean that lists a variable, with what it lists TIED to the program's text (the seventh form; the later family's looks); each row that meets fmt, with fmt's text TOLD by the authors' own Lean function (tested against real Go, not proved from fmt's source: count such statements apart). THE CARD IS WHAT COUNTS. Prove the row's statement (the work); the ties are given (YtobfeflheaobiaaDoorTie.lean); close each card by the builder's one call (the guide's Derived/Test/ToyasCard.lean, 'card_holds'). Laid BY PROGRAM, IN A SANDBOX (cutbox-door.mjs). By AI agents, Wed Nov 11 2026. No macro, syntax, notation, axiom, sorry.
-/
import Derived.Test.YtobfeflheaobiaaDoorRows
import GoSem.ClaimSeven
namespace Go.Proofs.YtobfeflheaobiaaDoor
namespace Rows

/-- THE TIED CARD OF 'posthouselaw16.ServerAdmits'. -/
def serverAdmitsCard : Claim7 := { stood := { row := serverAdmitsRow, standIns := [], harness := (true, "627b5a3ff0b15a15194eea39726a38a89f0a442332ac745394d87517a518e919"), looks := true }, kinds := [], alts := [], laidByText := true, laidKinds := [.data, .data], laidTests := true, laidLooks := .later }
def ServerAdmitsCardSaid : Prop := Claim7.holds Tryd.pinned (.plain (OpenSpec.ofChange serverAdmitsSpec)) serverAdmitsCard

/-- THE TIED CARD OF 'posthouselaw16.ServerAsks'. -/
def serverAsksCard : Claim7 := { stood := { row := serverAsksRow, standIns := [], harness := (true, "627b5a3ff0b15a15194eea39726a38a89f0a442332ac745394d87517a518e919"), looks := true }, kinds := [], alts := [], laidByText := true, laidKinds := [.data, .data], laidTests := true, laidLooks := .later }
def ServerAsksCardSaid : Prop := Claim7.holds Tryd.pinned (.plain (OpenSpec.ofChange serverAsksSpec)) serverAsksCard

/-- THE TIED CARD OF 'posthouselaw16.ServerTimes'. -/
def serverTimesCard : Claim7 := { stood := { row := serverTimesRow, standIns := [], harness := (true, "627b5a3ff0b15a15194eea39726a38a89f0a442332ac745394d87517a518e919"), looks := true }, kinds := [], alts := [], laidByText := true, laidKinds := [.data, .data], laidTests := true, laidLooks := .later }
def ServerTimesCardSaid : Prop := Claim7.holds Tryd.pinned (.plain (OpenSpec.ofChange serverTimesSpec)) serverTimesCard

/-- THE SECOND FORM's CARD OF 'posthouselaw16.ServerAdmits'. -/
def serverAdmitsUptoCard : Claim7 := { stood := { row := serverAdmitsUptoRow, standIns := [], harness := (true, "627b5a3ff0b15a15194eea39726a38a89f0a442332ac745394d87517a518e919"), looks := true }, kinds := [], alts := [], laidByText := true, laidKinds := [.data, .data], laidTests := true, laidLooks := .later }
def ServerAdmitsUptoCardSaid : Prop := Claim7.holds Tryd.pinned (.plain (OpenSpec.upto serverAdmitsSpec)) serverAdmitsUptoCard

/-- THE SECOND FORM's CARD OF 'posthouselaw16.ServerAsks'. -/
def serverAsksUptoCard : Claim7 := { stood := { row := serverAsksUptoRow, standIns := [], harness := (true, "627b5a3ff0b15a15194eea39726a38a89f0a442332ac745394d87517a518e919"), looks := true }, kinds := [], alts := [], laidByText := true, laidKinds := [.data, .data], laidTests := true, laidLooks := .later }
def ServerAsksUptoCardSaid : Prop := Claim7.holds Tryd.pinned (.plain (OpenSpec.upto serverAsksSpec)) serverAsksUptoCard

/-- THE SECOND FORM's CARD OF 'posthouselaw16.ServerTimes'. -/
def serverTimesUptoCard : Claim7 := { stood := { row := serverTimesUptoRow, standIns := [], harness := (true, "627b5a3ff0b15a15194eea39726a38a89f0a442332ac745394d87517a518e919"), looks := true }, kinds := [], alts := [], laidByText := true, laidKinds := [.data, .data], laidTests := true, laidLooks := .later }
def ServerTimesUptoCardSaid : Prop := Claim7.holds Tryd.pinned (.plain (OpenSpec.upto serverTimesSpec)) serverTimesUptoCard
end Rows
end Go.Proofs.YtobfeflheaobiaaDoor
