/- The reference: is an arc empty. -/
import Derived.Test.YtjpfpdbhdcopbaaMc
import Derived.Test.YtjpfpdbhdcopbaaPlainEb
namespace Go.Proofs.Ytjpfpdbhdcopbaa.Wt
open Go.ChangeShapes Go.WideShapes Go.ChangeAt Go.RowKit
open Go.Proofs.Ytjpfpdbhdcopbaa.Pl
set_option linter.unusedVariables false
theorem emp_any (a0 a1 a2 a3 : Int) (w : World) (r : Bool) (hr : empA (a0, a1, a2, a3) = r) : Calls Try.prog 22 #[.agg #[.int .i64 a0, .int .i64 a1, .int .i64 a2, .int .i64 a3]] w fun e w' => e = .returned (.bool r) ∧ Below w.heap.size w w' := by
  by_cases h : a0 = 0
  · subst h
    by_cases h1 : a1 = 0
    · subst h1
      obtain rfl : r = true := by rw [← hr]; rfl
      clear hr
      go_enter Try.func22, Try.ntmps22
      go_wp2
      go_ret
      exact ⟨rfl, by go_grown⟩
    · have hne : (a1 == 0) = false := by simpa using h1
      obtain rfl : r = false := by rw [← hr]; simp [empA, h1]
      clear hr
      go_enter Try.func22, Try.ntmps22
      go_wp2
      go_ret
      exact ⟨rfl, by go_grown⟩
  · have hne : (a0 == 0) = false := by simpa using h
    obtain rfl : r = false := by rw [← hr]; simp [empA, h]
    clear hr
    go_enter Try.func22, Try.ntmps22
    go_wp2
    go_ret
    exact ⟨rfl, by go_grown⟩
end Go.Proofs.Ytjpfpdbhdcopbaa.Wt
