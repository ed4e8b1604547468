/- The reference: how far each state is from the start. -/
import Derived.Test.YteaafghmkkejfaaDs
import Derived.Test.YteaafghmkkejfaaJ15m
namespace Go.Proofs.Yteaafghmkkejfaa.Wt
open Go.ChangeShapes Go.WideShapes Go.ChangeAt Go.RowKit
open Go.Proofs.Yteaafghmkkejfaa.Pl
set_option linter.unusedVariables false
set_option linter.unusedSimpArgs false
end Go.Proofs.Yteaafghmkkejfaa.Wt
