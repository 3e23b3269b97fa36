/- Which entries, stacks and messages may be, and which are the same, by the references. -/
import Derived.Test.YtobfeflheaobiaaDoorCon
set_option linter.unusedVariables false
set_option linter.unusedSimpArgs false
set_option linter.unusedSectionVars false
namespace Go.Proofs.YtobfeflheaobiaaDoor
open Go.RowKit
end Go.Proofs.YtobfeflheaobiaaDoor
