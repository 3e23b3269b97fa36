/- What is judged, by the reference. -/
import Derived.Test.YtobfeflheaobiaaGreatDoorVc
import Derived.Test.YtobfeflheaobiaaGreatDoorVe
set_option linter.unusedVariables false
set_option linter.unusedSimpArgs false
set_option linter.unusedSectionVars false
namespace Go.Proofs.YtobfeflheaobiaaGreatDoor
open Go.RowKit
end Go.Proofs.YtobfeflheaobiaaGreatDoor
