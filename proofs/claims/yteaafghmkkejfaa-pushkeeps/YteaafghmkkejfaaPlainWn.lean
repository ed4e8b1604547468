/- What is answered of a machine and words, wrong ones too (no program in sight). -/
import Derived.Test.YteaafghmkkejfaaJ15e
import Derived.Test.YteaafghmkkejfaaPlainWg
namespace Go.Proofs.Yteaafghmkkejfaa.Pl
set_option linter.unusedVariables false
set_option linter.unusedSimpArgs false
def wghE1 (m : Mc) (x : List Int) : Int := if faultM m ≠ 0 then faultM m else wrdE x
def wghE2 (m : Mc) (x y : List Int) : Int := if faultM m ≠ 0 then faultM m else croE x y
def WgR (P : Nat → Prop) (r n ec : Int) : Prop := if r = 0 then WghAns P n ec else n = 0 ∧ ec = r
theorem WgR.one {P : Nat → Prop} {r n e n' e' : Int} (h : WgR P r n e) (k : WgR P r n' e') : n = n' ∧ e = e' := by
  unfold WgR at h k
  by_cases g : r = 0
  · rw [if_pos g] at h k; exact h.one k
  · rw [if_neg g] at h k
    obtain ⟨rfl, rfl⟩ := h
    obtain ⟨rfl, rfl⟩ := k
    exact ⟨rfl, rfl⟩
end Go.Proofs.Yteaafghmkkejfaa.Pl
