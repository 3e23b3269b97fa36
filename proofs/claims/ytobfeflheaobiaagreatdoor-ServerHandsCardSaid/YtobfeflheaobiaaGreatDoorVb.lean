/- The reference of layer 2: its sum is the same sum. -/
import Derived.Test.YtobfeflheaobiaaGreatDoorVa
set_option linter.unusedVariables false
set_option linter.unusedSimpArgs false
set_option linter.unusedSectionVars false
namespace Go.Proofs.YtobfeflheaobiaaGreatDoor
open Go.RowKit
end Go.Proofs.YtobfeflheaobiaaGreatDoor
