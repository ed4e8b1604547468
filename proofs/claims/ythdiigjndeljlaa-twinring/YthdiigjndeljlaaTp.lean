/- What Plus of twins of the program answers. -/
import Derived.Test.YthdiigjndeljlaaTl
namespace Go.Proofs.Ythdiigjndeljlaa.Wt
open Go.ChangeShapes Go.WideShapes Go.ChangeAt Go.RowKit
open Go.Proofs.Ythdiigjndeljlaa.Pl
set_option linter.unusedVariables false

def plusT (a b c d : Int) : Int × Int × Int := if (mayB a b && mayB c d) = true then (if lessB c d a b = true then (c, d, 0) else (a, b, 0)) else (0, 0, 2)
theorem plusT_any (a b c d : Int) (w : World) :
    Calls Try.prog 11 #[.agg #[.int .i64 a, .int .i64 b], .agg #[.int .i64 c, .int .i64 d]] w fun e w' => e = .returned (.tuple #[.agg #[.int .i64 (plusT a b c d).1, .int .i64 (plusT a b c d).2.1], .int .i64 (plusT a b c d).2.2]) ∧ Below w.heap.size w w' := by
  go_enter Try.func11, Try.ntmps11
  go_wp2_with (first | (go_at_call 20; refine (mayBe_any _ _ _).mono ?_; rintro e w' ⟨rfl, rfl⟩) | (go_at_call 9; refine (less_any _ _ _ _ _).mono ?_; rintro e w' ⟨rfl, rfl⟩))
  all_goals
    go_returns
    exact ⟨tup (by simp_all [plusT]), by go_grown⟩
theorem plusT_of (a b c d p q r : Int) (w : World) (h : plusT a b c d = (p, q, r)) :
    Calls Try.prog 11 #[.agg #[.int .i64 a, .int .i64 b], .agg #[.int .i64 c, .int .i64 d]] w fun e w' => e = .returned (.tuple #[.agg #[.int .i64 p, .int .i64 q], .int .i64 r]) ∧ Below w.heap.size w w' := by
  have := plusT_any a b c d w
  rw [h] at this
  exact this
end Go.Proofs.Ythdiigjndeljlaa.Wt
