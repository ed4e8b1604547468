/- What Plus of twins answers, of the program and of the reference. -/
import Derived.Test.YthdiigjndeljlaaTw
import Derived.Below
import Derived.Handy
namespace Go.Proofs.Ythdiigjndeljlaa.Wt
open Go.ChangeShapes Go.WideShapes Go.ChangeAt Go.RowKit
open Go.Proofs.Ythdiigjndeljlaa.Pl
set_option linter.unusedVariables false

def plusT (a b c d : Int) : Int × Int × Int := if (mayB a b && mayB c d) = true then (if lessB c d a b = true then (c, d, 0) else (a, b, 0)) else (0, 0, 2)
def addT (a b c d : Int) : Int × Int × Int := if (mayB a b && mayB c d) = true then (if lessB a b c d = true then (a, b, 0) else (c, d, 0)) else (0, 0, 2)
theorem addT_eq (a b c d : Int) : addT a b c d = plusT a b c d := by
  unfold addT plusT
  split
  · rcases bool_cases (lessB a b c d) with h | h <;> rcases bool_cases (lessB c d a b) with g | g <;> simp only [h, g] <;> simp <;> simp only [lessB, Bool.or_eq_true, Bool.and_eq_true, decide_eq_true_eq, beq_iff_eq, Bool.or_eq_false_iff, Bool.and_eq_false_iff, decide_eq_false_iff_not, beq_eq_false_iff_ne] at h g <;> omega
  · rfl
theorem tup {x y z : Int} {p : Int × Int × Int} (h : (x, y, z) = p) : Ending.returned (.tuple #[.agg #[.int .i64 x, .int .i64 y], .int .i64 z]) = .returned (.tuple #[.agg #[.int .i64 p.1, .int .i64 p.2.1], .int .i64 p.2.2]) := by rw [← h]
theorem plusT_any (a b c d : Int) (w : World) :
    Calls Try.prog 11 #[.agg #[.int .i64 a, .int .i64 b], .agg #[.int .i64 c, .int .i64 d]] w fun e w' => e = .returned (.tuple #[.agg #[.int .i64 (plusT a b c d).1, .int .i64 (plusT a b c d).2.1], .int .i64 (plusT a b c d).2.2]) ∧ Below w.heap.size w w' := by
  go_enter Try.func11, Try.ntmps11
  go_wp2_with (first | (go_at_call 20; refine (mayBe_any _ _ _).mono ?_; rintro e w' ⟨rfl, rfl⟩) | (go_at_call 9; refine (less_any _ _ _ _ _).mono ?_; rintro e w' ⟨rfl, rfl⟩))
  all_goals
    go_returns
    exact ⟨tup (by simp_all [plusT]), by go_grown⟩
theorem addedT_any (a b c d : Int) (w : World) :
    Calls Try.prog 12 #[.agg #[.int .i64 a, .int .i64 b], .agg #[.int .i64 c, .int .i64 d]] w fun e w' => e = .returned (.tuple #[.agg #[.int .i64 (plusT a b c d).1, .int .i64 (plusT a b c d).2.1], .int .i64 (plusT a b c d).2.2]) ∧ Below w.heap.size w w' := by
  go_enter Try.func12, Try.ntmps12
  go_wp2_with (first | (go_at_call 21; refine (twinMay_any _ _ _).mono ?_; rintro e w' ⟨rfl, rfl⟩) | (go_at_call 10; refine (twinLess_any _ _ _ _ _).mono ?_; rintro e w' ⟨rfl, rfl⟩))
  all_goals
    go_returns
    exact ⟨tup (Eq.trans (by simp_all [addT]) (addT_eq a b c d)), by go_grown⟩
theorem plusT_of (a b c d p q r : Int) (w : World) (h : plusT a b c d = (p, q, r)) :
    Calls Try.prog 11 #[.agg #[.int .i64 a, .int .i64 b], .agg #[.int .i64 c, .int .i64 d]] w fun e w' => e = .returned (.tuple #[.agg #[.int .i64 p, .int .i64 q], .int .i64 r]) ∧ Below w.heap.size w w' := by
  have := plusT_any a b c d w
  rw [h] at this
  exact this
theorem addedT_of (a b c d p q r : Int) (w : World) (h : plusT a b c d = (p, q, r)) :
    Calls Try.prog 12 #[.agg #[.int .i64 a, .int .i64 b], .agg #[.int .i64 c, .int .i64 d]] w fun e w' => e = .returned (.tuple #[.agg #[.int .i64 p, .int .i64 q], .int .i64 r]) ∧ Below w.heap.size w w' := by
  have := addedT_any a b c d w
  rw [h] at this
  exact this
theorem below_at {B : Nat} {w w' : World} {p : Addr} {v : Value} (h : Below B w w') (hp : p.block < B) (hv : w.cell? p = some v) : w'.cell? p = some v := (h.cell hp).trans hv
theorem below_fz {B : Nat} {w w' : World} {p : Addr} {v : Bool} (h : Below B w w') (hp : p.block < B) (hv : w.frozen? p = v) : w'.frozen? p = v := (h.frozen hp).trans hv
theorem below_lt {B n : Nat} {w w' : World} (h : Below B w w') (hn : n < w.heap.size) : n < w'.heap.size := Nat.lt_of_lt_of_le hn h.size
end Go.Proofs.Ythdiigjndeljlaa.Wt
