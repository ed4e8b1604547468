/- What the reference's TwinJoined answers: the same as Times of the program. -/
import Derived.Test.YthdiigjndeljlaaTt
import Derived.Test.YthdiigjndeljlaaTj
namespace Go.Proofs.Ythdiigjndeljlaa.Wt
open Go.ChangeShapes Go.WideShapes Go.ChangeAt Go.RowKit
open Go.Proofs.Ythdiigjndeljlaa.Pl
set_option linter.unusedVariables false

theorem timesR_in {a c : Int} (h : 0 ≤ a ∧ a ≤ 1000000001) (g : 0 ≤ c ∧ c ≤ 1000000001) : timesR a c = if a = 1000000001 ∨ c = 1000000001 then (1000000001, 0) else if 1000000000 < a + c then (0, 4) else (a + c, 0) := by
  have : (wtB a && wtB c) = true := by rw [Bool.and_eq_true, wtB_true, wtB_true]; omega
  simp only [timesR, this, if_true]
theorem joinT_eq {a b c d : Int} (h : mayB a b = true) (g : mayB c d = true) :
    timesT a b c d = if (timesR a c).2 = 0 ∧ (timesR b d).2 = 0 then ((timesR a c).1, (timesR b d).1, 0) else (0, 0, 4) := by
  have h1 := may_wee h
  have g1 := may_wee g
  simp only [timesT, h, g, Bool.and_self, if_true, thenT]
  rw [timesR_in h1.1 g1.1, timesR_in h1.2 g1.2]
  rw [mayB_iff] at h g
  by_cases ha : a = 1000000001 <;> by_cases hb : b = 1000000001 <;> by_cases hc : c = 1000000001 <;> by_cases hd : d = 1000000001 <;> by_cases hs : 1000000000 < a + c <;> by_cases ht : 1000000000 < b + d <;> simp [infB, ha, hb, hc, hd, hs, ht] <;> simp_all <;> omega
theorem joinedT_any (a b c d : Int) (w : World) :
    Calls Try.prog 14 #[.agg #[.int .i64 a, .int .i64 b], .agg #[.int .i64 c, .int .i64 d]] w fun e w' => e = .returned (.tuple #[.agg #[.int .i64 (timesT a b c d).1, .int .i64 (timesT a b c d).2.1], .int .i64 (timesT a b c d).2.2]) ∧ Below w.heap.size w w' := by
  rcases bool_cases (mayB a b) with h | h <;> rcases bool_cases (mayB c d) with g | g
  · have HJ : Hid (timesT a b c d = if (timesR a c).2 = 0 ∧ (timesR b d).2 = 0 then ((timesR a c).1, (timesR b d).1, 0) else (0, 0, 4)) := joinT_eq h g
    go_enter Try.func14, Try.ntmps14
    go_wp2_with (first | (go_at_call 21; refine (twinMay_any _ _ _).mono ?_; rintro e w' ⟨rfl, rfl⟩) | (go_at_call 23; refine (joined_any _ _ _).mono ?_; rintro e w' ⟨rfl, rfl⟩))
    all_goals
      go_returns
      exact ⟨tup (by rw [HJ.out]; simp_all), by go_grown⟩
  all_goals
    have ht : timesT a b c d = (0, 0, 2) := by simp [timesT, h, g]
    rw [ht]
    clear ht
    go_enter Try.func14, Try.ntmps14
    go_wp2_with (first | (go_at_call 21; refine (twinMay_any _ _ _).mono ?_; rintro e w' ⟨rfl, rfl⟩))
    all_goals
      go_returns
      exact ⟨rfl, by go_grown⟩
theorem timesT_of (a b c d p q r : Int) (w : World) (h : timesT a b c d = (p, q, r)) :
    Calls Try.prog 13 #[.agg #[.int .i64 a, .int .i64 b], .agg #[.int .i64 c, .int .i64 d]] w fun e w' => e = .returned (.tuple #[.agg #[.int .i64 p, .int .i64 q], .int .i64 r]) ∧ Below w.heap.size w w' := by
  have := timesT_any a b c d w
  rw [h] at this
  exact this
theorem joinedT_of (a b c d p q r : Int) (w : World) (h : timesT a b c d = (p, q, r)) :
    Calls Try.prog 14 #[.agg #[.int .i64 a, .int .i64 b], .agg #[.int .i64 c, .int .i64 d]] w fun e w' => e = .returned (.tuple #[.agg #[.int .i64 p, .int .i64 q], .int .i64 r]) ∧ Below w.heap.size w w' := by
  have := joinedT_any a b c d w
  rw [h] at this
  exact this
end Go.Proofs.Ythdiigjndeljlaa.Wt
