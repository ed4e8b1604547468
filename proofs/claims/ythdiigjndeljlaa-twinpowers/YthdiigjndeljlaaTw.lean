/- What the small functions on twins of the program answer: which twin is Inf, which may be. -/
import Derived.Test.YthdiigjndeljlaaRows
import Derived.Test.YthdiigjndeljlaaPlainT
import Derived.WalkKit
import Derived.ProofKit
import Derived.OpenShut
import Derived.Below
import Derived.Handy
namespace Go.Proofs.Ythdiigjndeljlaa.Wt
open Go.ChangeShapes Go.WideShapes Go.ChangeAt Go.RowKit
open Go.Proofs.Ythdiigjndeljlaa.Pl
set_option linter.unusedVariables false

theorem tup {x y z : Int} {p : Int × Int × Int} (h : (x, y, z) = p) : Ending.returned (.tuple #[.agg #[.int .i64 x, .int .i64 y], .int .i64 z]) = .returned (.tuple #[.agg #[.int .i64 p.1, .int .i64 p.2.1], .int .i64 p.2.2]) := by rw [← h]
theorem below_at {B : Nat} {w w' : World} {p : Addr} {v : Value} (h : Below B w w') (hp : p.block < B) (hv : w.cell? p = some v) : w'.cell? p = some v := (h.cell hp).trans hv
theorem below_fz {B : Nat} {w w' : World} {p : Addr} {v : Bool} (h : Below B w w') (hp : p.block < B) (hv : w.frozen? p = v) : w'.frozen? p = v := (h.frozen hp).trans hv
theorem below_lt {B n : Nat} {w w' : World} (h : Below B w w') (hn : n < w.heap.size) : n < w'.heap.size := Nat.lt_of_lt_of_le hn h.size
theorem isInf_any (a b : Int) (w : World) :
    Calls Try.prog 28 #[.agg #[.int .i64 a, .int .i64 b]] w fun e w' => e = .returned (.bool (infB a b)) ∧ w' = w.alloc (.cells #[.int .i64 a, .int .i64 b] 23) := by
  go_enter Try.func28, Try.ntmps28
  go_wp2
  all_goals
    go_ret
    exact ⟨ret_bool (by simp_all [infB] <;> intros <;> omega), by simp_all⟩
theorem isFinite_any (a : Int) (w : World) :
    Calls Try.prog 29 #[.int .i64 a] w fun e w' => e = .returned (.bool (finB a)) ∧ w' = w := by
  go_enter Try.func29, Try.ntmps29
  go_wp2
  all_goals
    go_ret
    exact ⟨ret_bool (by simp_all [finB] <;> intros <;> omega), by simp_all⟩
theorem mayBe_any (a b : Int) (w : World) :
    Calls Try.prog 20 #[.agg #[.int .i64 a, .int .i64 b]] w fun e w' => e = .returned (.bool (mayB a b)) ∧ w' = (w.alloc (.cells #[.int .i64 a, .int .i64 b] 23)).alloc (.cells #[.int .i64 a, .int .i64 b] 23) := by
  go_enter Try.func20, Try.ntmps20
  go_wp2_with (first | (go_at_call 28; refine (isInf_any _ _ _).mono ?_; rintro e w' ⟨rfl, rfl⟩) | (go_at_call 29; refine (isFinite_any _ _).mono ?_; rintro e w' ⟨rfl, rfl⟩))
  all_goals
    go_ret
    exact ⟨ret_bool (by simp_all [mayB] <;> intros <;> omega), by simp_all⟩
end Go.Proofs.Ythdiigjndeljlaa.Wt
