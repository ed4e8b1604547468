/- Whether arcs stand in order, by the program. -/
import Derived.Test.YtpfcljhbamnghabJ12b
import Derived.Test.YtpfcljhbamnghabJ12u
import Derived.Test.YtpfcljhbamnghabRg
namespace Go.Proofs.Ytpfcljhbamnghab.Wt
open Go.ChangeShapes Go.WideShapes Go.ChangeAt Go.RowKit
open Go.Proofs.Ytpfcljhbamnghab.Pl
set_option linter.unusedVariables false
set_option linter.unusedSimpArgs false
theorem compare_any (a b : Int) (w : World) : Calls Try.prog 71 #[.int .i64 a, .int .i64 b] w fun e w' => e = .returned (.int .i64 (cmpI a b)) ∧ w = w' := by
  unfold cmpI
  by_cases h1 : a < b
  · go_enter Try.func71, Try.ntmps71
    go_wp2_with (first | (go_at_call 82; go_in))
    go_ret
    exact ⟨rfl, rfl⟩
  · by_cases h2 : b < a
    · go_enter Try.func71, Try.ntmps71
      go_wp2_with (first | (go_at_call 82; go_in))
      go_ret
      exact ⟨rfl, rfl⟩
    · go_enter Try.func71, Try.ntmps71
      go_wp2_with (first | (go_at_call 82; go_in))
      go_ret
      exact ⟨rfl, rfl⟩
end Go.Proofs.Ytpfcljhbamnghab.Wt
