/- Plain facts on twins (no program in sight): which may be, which counts ahead, the lesser, the sum, many of one. -/
import Derived.Test.YthdiigjndeljlaaPlain
namespace Go.Proofs.Ythdiigjndeljlaa.Pl

def infB (a b : Int) : Bool := a == 1000000001 && b == 1000000001
def finB (a : Int) : Bool := decide (0 ≤ a) && decide (a ≤ 1000000000)
def mayB (a b : Int) : Bool := infB a b || finB a && finB b
def lessB (a b c d : Int) : Bool := decide (a < c) || a == c && decide (b < d)
theorem infB_iff {a b : Int} : infB a b = true ↔ a = 1000000001 ∧ b = 1000000001 := by simp [infB]
theorem finB_iff {a : Int} : finB a = true ↔ 0 ≤ a ∧ a ≤ 1000000000 := by simp [finB]
theorem mayB_iff {a b : Int} : mayB a b = true ↔ (a = 1000000001 ∧ b = 1000000001) ∨ ((0 ≤ a ∧ a ≤ 1000000000) ∧ (0 ≤ b ∧ b ≤ 1000000000)) := by
  simp [mayB, infB, finB]
theorem lessB_iff {a b c d : Int} : lessB a b c d = true ↔ a < c ∨ (a = c ∧ b < d) := by simp [lessB]
theorem iff_bool {x y : Bool} (h : x = true ↔ y = true) : x = y := by cases x <;> cases y <;> simp_all
end Go.Proofs.Ythdiigjndeljlaa.Pl
