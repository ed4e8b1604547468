/- The machines of eight states that lead forward. -/
import Derived.Test.YtfffelgmgghldabFw
import Derived.Test.YtfffelgmgghldabRn
import Derived.Test.YtfffelgmgghldabJ11b
namespace Go.Proofs.Ytfffelgmgghldab.Wt
open Go.ChangeShapes Go.WideShapes Go.ChangeAt Go.RowKit
open Go.Proofs.Ytfffelgmgghldab.Pl
set_option linter.unusedVariables false
/-- forward(x, 8): what is made. -/
theorem slim8 (r : Rw) : faultM (fwdM (madeM r 8 false)) = 0 ∧ Fwd (fwdM (madeM r 8 false)).2 ∧ (fwdM (madeM r 8 false)).1 = 0 ∧ 0 < (fwdM (madeM r 8 false)).2.length ∧ (fwdM (madeM r 8 false)).2.length ≤ 8 ∧ ∀ q, q < (fwdM (madeM r 8 false)).2.length → (el (fwdM (madeM r 8 false)).2 q).2.length ≤ 4 := by
  have hlen : (madeM r 8 false).2.length = sizeM r 8 := statesM_length _ _ _
  have hn : 0 < (madeM r 8 false).2.length ∧ (madeM r 8 false).2.length ≤ 8 := by rw [hlen]; unfold sizeM; omega
  have hfM := madeM_right r 8 (by omega) (by omega) false
  refine ⟨fwdM_fault hfM hn.1, ?_, rfl, by rw [fwdM_length]; exact hn.1, by rw [fwdM_length]; exact hn.2, fun q hq => ?_⟩
  · intro q hq a ha
    rw [fwdM_length] at hq
    rw [fwdM_el _ hq] at ha
    obtain ⟨b, _, rfl, h1⟩ := fwdR_mem ha
    obtain ⟨t, h2, h3, h4⟩ := fwdA_to h1 b
    exact ⟨t, h2, h3, by rw [fwdM_length]; exact h4⟩
  · rw [fwdM_length] at hq
    rw [fwdM_el _ hq]
    exact Nat.le_trans (fwdR_le _ _ _) (made_fourG r 8 false hq)
end Go.Proofs.Ytfffelgmgghldab.Wt
