/- What is judged, by the reference. -/
import Derived.Test.YtobfeflheaobiaaDoorVc
import Derived.Test.YtobfeflheaobiaaDoorVe
set_option linter.unusedVariables false
set_option linter.unusedSimpArgs false
set_option linter.unusedSectionVars false
namespace Go.Proofs.YtobfeflheaobiaaDoor
open Go.RowKit
end Go.Proofs.YtobfeflheaobiaaDoor
