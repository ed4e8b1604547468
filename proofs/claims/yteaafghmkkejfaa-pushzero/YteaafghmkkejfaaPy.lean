/- What Push and Pull answer, in memory (no function in sight). -/
import Derived.Test.YteaafghmkkejfaaRn
import Derived.Test.YteaafghmkkejfaaPlainPh
namespace Go.Proofs.Yteaafghmkkejfaa.Wt
open Go.ChangeShapes Go.WideShapes Go.ChangeAt Go.RowKit
open Go.Proofs.Yteaafghmkkejfaa.Pl
set_option linter.unusedVariables false
/-- A machine, a number and an error are answered. -/
def PshRes (Q : Mc → Int → Int → Prop) (w : World) (e : Ending) (w' : World) : Prop := ∃ v x, ∃ t ec : Int, e = .returned (.tuple #[v, .int .i64 t, .int .i64 ec]) ∧ Q x t ec ∧ Mach w' v x ∧ Below w.heap.size w w'
/-- A machine and an error are answered, of which something is known. -/
def PulRes (Q : Mc → Int → Prop) (w : World) (e : Ending) (w' : World) : Prop := ∃ v x, ∃ ec : Int, e = .returned (.tuple #[v, .int .i64 ec]) ∧ Q x ec ∧ Mach w' v x ∧ Below w.heap.size w w'
end Go.Proofs.Yteaafghmkkejfaa.Wt
