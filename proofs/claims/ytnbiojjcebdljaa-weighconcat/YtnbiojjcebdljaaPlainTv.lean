/- Machines that are right, turned round (no program in sight). -/
import Derived.Test.YtnbiojjcebdljaaPlainTu
namespace Go.Proofs.Ytnbiojjcebdljaa.Pl
set_option linter.unusedVariables false
set_option linter.unusedSimpArgs false
theorem right_okM {m : Mc} (h : faultM m = 0) : okM m := by
  have h1 := right_size (z := m.1) (l := m.2) h
  exact small_ok (by omega) (by omega)
theorem tur_right {k : Int} {m : Mc} (h : faultM m = 0) : turM k m = tuM k m := by unfold turM; rw [if_pos h]
end Go.Proofs.Ytnbiojjcebdljaa.Pl
