/- The keeping statements' sum of two costs. -/
import Derived.Test.YtibafdehgmalgaaJ13i
namespace Go.Proofs.Ytibafdehgmalgaa.Wt
open Go.ChangeShapes Go.WideShapes Go.ChangeAt Go.RowKit
open Go.Proofs.Ytibafdehgmalgaa.Pl
set_option linter.unusedVariables false
set_option linter.unusedSimpArgs false
/-- both(a, b). -/
theorem both_any (a b : Int) (w : World) (ha : 0 ≤ a ∧ a ≤ 1000000001) (hb : 0 ≤ b ∧ b ≤ 1000000001) :
    Calls Try.prog 20 #[.int .i64 a, .int .i64 b] w fun e w' => e = .returned (.int .i64 (if a = 1000000001 ∨ b = 1000000001 then 1000000001 else a + b)) ∧ w = w' := by
  by_cases h1 : a = 1000000001
  · rw [if_pos (.inl h1)]
    have h1' : (a == 1000000001) = true := by simpa using h1
    go_enter Try.func20, Try.ntmps20
    go_wp2
    go_ret
    exact ⟨rfl, rfl⟩
  · have h1' : (a == 1000000001) = false := by simpa using h1
    by_cases h2 : b = 1000000001
    · rw [if_pos (.inr h2)]
      have h2' : (b == 1000000001) = true := by simpa using h2
      go_enter Try.func20, Try.ntmps20
      go_wp2
      go_ret
      exact ⟨rfl, rfl⟩
    · rw [if_neg (fun h => h.elim h1 h2)]
      have h2' : (b == 1000000001) = false := by simpa using h2
      have hw : IntKind.i64.wrap (a + b) = a + b := wrapI (by omega) (by omega)
      go_enter Try.func20, Try.ntmps20
      go_wp2
      go_ret
      exact ⟨rfl, rfl⟩
end Go.Proofs.Ytibafdehgmalgaa.Wt
