/- The keeping statements' sum of two costs. -/
import Derived.Test.YtibafdehgmalgabJ13i
namespace Go.Proofs.Ytibafdehgmalgab.Wt
open Go.ChangeShapes Go.WideShapes Go.ChangeAt Go.RowKit
open Go.Proofs.Ytibafdehgmalgab.Pl
set_option linter.unusedVariables false
set_option linter.unusedSimpArgs false
end Go.Proofs.Ytibafdehgmalgab.Wt
