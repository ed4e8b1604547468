/- What the reference's IsWeight answers, at every number. -/
import Derived.Test.YthdiigjndeljlaaRows
import Derived.Test.YthdiigjndeljlaaPlain
import Derived.WalkKit
import Derived.ProofKit
import Derived.OpenShut
namespace Go.Proofs.Ythdiigjndeljlaa.Wt
open Go.ChangeShapes Go.WideShapes Go.ChangeAt Go.RowKit
open Go.Proofs.Ythdiigjndeljlaa.Pl
set_option linter.unusedVariables false

theorem isWeight_any (n : Int) (w : World) :
    Calls Try.prog 30 #[.int .i64 n] w fun e w' => e = .returned (.bool (wtB n)) ∧ w' = w := by
  by_cases hx : n = 1000000001
  · subst hx
    go_enter Try.func30, Try.ntmps30
    go_wp2
    go_ret
    exact ⟨rfl, rfl⟩
  · have hne : (n == 1000000001) = false := by simpa using hx
    by_cases h0 : 0 ≤ n
    · by_cases h1 : n ≤ 1000000000
      · go_enter Try.func30, Try.ntmps30
        go_wp2
        go_ret
        exact ⟨ret_bool (wtB_true.2 (by omega)).symm, rfl⟩
      · go_enter Try.func30, Try.ntmps30
        go_wp2
        go_ret
        exact ⟨ret_bool (wtB_false.2 (by omega)).symm, rfl⟩
    · go_enter Try.func30, Try.ntmps30
      go_wp2
      go_ret
      exact ⟨ret_bool (wtB_false.2 (by omega)).symm, rfl⟩
theorem isWeight_of (n : Int) (r : Bool) (w : World) (h : wtB n = r) :
    Calls Try.prog 30 #[.int .i64 n] w fun e w' => e = .returned (.bool r) ∧ w = w' := by
  refine (isWeight_any n w).mono ?_
  rintro e w' ⟨rfl, rfl⟩
  exact ⟨ret_bool h, rfl⟩

end Go.Proofs.Ythdiigjndeljlaa.Wt
