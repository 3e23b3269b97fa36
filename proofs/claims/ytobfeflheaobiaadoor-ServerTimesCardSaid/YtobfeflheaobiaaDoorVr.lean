/- What the reference of ident answers: comparisons, what is on the way, what is in common: for all identifiers. -/
import Derived.Test.YtobfeflheaobiaaDoorCon
set_option linter.unusedVariables false
set_option linter.unusedSimpArgs false
set_option linter.unusedSectionVars false
namespace Go.Proofs.YtobfeflheaobiaaDoor
open Go.RowKit
end Go.Proofs.YtobfeflheaobiaaDoor
