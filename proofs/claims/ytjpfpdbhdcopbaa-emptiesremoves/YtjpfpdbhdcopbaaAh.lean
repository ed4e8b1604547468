/- Whether an arc stands ahead of another, by the reference. -/
import Derived.Test.YtjpfpdbhdcopbaaMc
import Derived.Test.YtjpfpdbhdcopbaaPlainV
namespace Go.Proofs.Ytjpfpdbhdcopbaa.Wt
open Go.ChangeShapes Go.WideShapes Go.ChangeAt Go.RowKit
open Go.Proofs.Ytjpfpdbhdcopbaa.Pl
set_option linter.unusedVariables false
set_option linter.unusedSimpArgs false
theorem refAhead (a b : Ar) (w : World) (r : Bool) (hr : aheadB a b = r) : Calls Try.prog 69 #[.agg #[.int .i64 a.1, .int .i64 a.2.1, .int .i64 a.2.2.1, .int .i64 a.2.2.2], .agg #[.int .i64 b.1, .int .i64 b.2.1, .int .i64 b.2.2.1, .int .i64 b.2.2.2]] w fun e w' => e = .returned (.bool r) ∧ Below w.heap.size w w' := by
  subst hr
  obtain ⟨a0, a1, a2, a3⟩ := a
  obtain ⟨b0, b1, b2, b3⟩ := b
  unfold aheadB
  simp only
  by_cases h0 : a0 = b0
  · have e0 : (a0 != b0) = false := by simpa using h0
    rw [if_pos h0]
    by_cases h1 : a1 = b1
    · have e1 : (a1 != b1) = false := by simpa using h1
      rw [if_pos h1]
      by_cases h3 : a3 = b3
      · have e3 : (a3 != b3) = false := by simpa using h3
        rw [if_pos h3]
        clear h0 h1 h3
        go_enter Try.func69, Try.ntmps69
        go_wp2
        go_ret
        exact ⟨rfl, by go_grown⟩
      · have e3 : (a3 != b3) = true := by simpa using h3
        rw [if_neg h3]
        clear h0 h1 h3
        go_enter Try.func69, Try.ntmps69
        go_wp2
        go_ret
        exact ⟨rfl, by go_grown⟩
    · have e1 : (a1 != b1) = true := by simpa using h1
      rw [if_neg h1]
      clear h0 h1
      go_enter Try.func69, Try.ntmps69
      go_wp2
      go_ret
      exact ⟨rfl, by go_grown⟩
  · have e0 : (a0 != b0) = true := by simpa using h0
    rw [if_neg h0]
    clear h0
    go_enter Try.func69, Try.ntmps69
    go_wp2
    go_ret
    exact ⟨rfl, by go_grown⟩
end Go.Proofs.Ytjpfpdbhdcopbaa.Wt
