/- What the reference's IsWeight answers, at every number. -/
import Derived.Test.YteaafghmkkejfaaRows
import Derived.Test.YteaafghmkkejfaaJ15z
import Derived.WalkKit
import Derived.ProofKit
import Derived.OpenShut
namespace Go.Proofs.Yteaafghmkkejfaa.Wt
open Go.ChangeShapes Go.WideShapes Go.ChangeAt Go.RowKit
open Go.Proofs.Yteaafghmkkejfaa.Pl
set_option linter.unusedVariables false

theorem isWeight_any (n : Int) (w : World) :
    Calls Try.prog 48 #[.int .i64 n] w fun e w' => e = .returned (.bool (wtB n)) ∧ w' = w := by
  by_cases hx : n = 1000000001
  · subst hx
    go_enter Try.func48, Try.ntmps48
    go_wp2
    go_ret
    exact ⟨rfl, rfl⟩
  · have hne : (n == 1000000001) = false := by simpa using hx
    by_cases h0 : 0 ≤ n
    · by_cases h1 : n ≤ 1000000000
      · go_enter Try.func48, Try.ntmps48
        go_wp2
        go_ret
        exact ⟨ret_bool (wtB_true.2 (by omega)).symm, rfl⟩
      · go_enter Try.func48, Try.ntmps48
        go_wp2
        go_ret
        exact ⟨ret_bool (wtB_false.2 (by omega)).symm, rfl⟩
    · go_enter Try.func48, Try.ntmps48
      go_wp2
      go_ret
      exact ⟨ret_bool (wtB_false.2 (by omega)).symm, rfl⟩
theorem isWeight_of (n : Int) (r : Bool) (w : World) (h : wtB n = r) :
    Calls Try.prog 48 #[.int .i64 n] w fun e w' => e = .returned (.bool r) ∧ w = w' := by
  refine (isWeight_any n w).mono ?_
  rintro e w' ⟨rfl, rfl⟩
  exact ⟨ret_bool h, rfl⟩

end Go.Proofs.Yteaafghmkkejfaa.Wt
