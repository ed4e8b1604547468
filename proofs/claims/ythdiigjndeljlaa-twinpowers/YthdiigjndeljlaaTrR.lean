/- What the reference's TwinPower answers: the same as Power of the program. -/
import Derived.Test.YthdiigjndeljlaaTr
import Derived.Test.YthdiigjndeljlaaTm
namespace Go.Proofs.Ythdiigjndeljlaa.Wt
open Go.ChangeShapes Go.WideShapes Go.ChangeAt Go.RowKit
open Go.Proofs.Ythdiigjndeljlaa.Pl
set_option linter.unusedVariables false

def mulR (a n : Int) : Int × Bool := if a = 0 ∨ n = 0 then (0, true) else if a = 1000000001 then (1000000001, true) else if a * n ≤ 1000000000 then (a * n, true) else (0, false)
theorem ret_ib {x y : Int} {b c : Bool} (h : (x, b) = (y, c)) : Ending.returned (.tuple #[.int .i64 x, .bool b]) = .returned (.tuple #[.int .i64 y, .bool c]) := by cases h; rfl
theorem over_iff {a n : Int} (h0 : 0 < a) : 1000000000 / a < n ↔ ¬ a * n ≤ 1000000000 := by
  rw [Int.ediv_lt_iff_lt_mul h0, Int.mul_comm n a]; omega
theorem mul_any (a n : Int) (w : World) (a0 : 0 ≤ a) (a1 : a ≤ 1000000001) (n0 : 0 ≤ n) (n1 : n ≤ 1000000000) :
    Calls Try.prog 26 #[.int .i64 a, .int .i64 n] w fun e w' => e = .returned (.tuple #[.int .i64 (mulR a n).1, .bool (mulR a n).2]) ∧ w' = w := by
  rcases bool_cases (a == 0) with ha | ha
  · go_enter Try.func26, Try.ntmps26
    go_wp2
    all_goals
      go_returns
      exact ⟨ret_ib (by simp at ha; simp [mulR, ha]), rfl⟩
  rcases bool_cases (n == 0) with hn | hn
  · go_enter Try.func26, Try.ntmps26
    go_wp2
    all_goals
      go_returns
      exact ⟨ret_ib (by simp at hn; simp [mulR, hn]), rfl⟩
  rcases bool_cases (a == 1000000001) with hi | hi
  · go_enter Try.func26, Try.ntmps26
    go_wp2
    all_goals
      go_returns
      exact ⟨ret_ib (by simp at hn hi; simp [mulR, hn, hi]), rfl⟩
  have hp : 0 < a := by simp at ha; omega
  have hne : ¬ a = 0 := by omega
  by_cases hm : a * n ≤ 1000000000
  · have hq : ¬ 1000000000 / a < n := fun k => (over_iff hp).1 k hm
    have hmn : 0 ≤ a * n := Int.mul_nonneg a0 n0
    go_enter Try.func26, Try.ntmps26
    go_wp2
    all_goals
      go_returns
      exact ⟨ret_ib (by simp at ha hn hi; simp [mulR, ha, hn, hi, hm]), rfl⟩
  · have hq : 1000000000 / a < n := (over_iff hp).2 hm
    have HQ : Hid (mulR a n = (0, false)) := by
      show _ = _
      simp at ha hn hi
      unfold mulR
      rw [if_neg (by omega), if_neg hi, if_neg hm]
    clear hm
    go_enter Try.func26, Try.ntmps26
    go_wp2
    all_goals
      go_returns
      exact ⟨ret_ib HQ.out.symm, rfl⟩
theorem pow_mul {a b : Int} {n : Nat} (h : mayB a b = true) : powT a b n = if (mulR a n).2 = true ∧ (mulR b n).2 = true then ((mulR a n).1, (mulR b n).1, 0) else (0, 0, 4) := by
  rcases bool_cases (infB a b) with g | g
  · obtain ⟨rfl, rfl⟩ := infB_iff.1 g
    by_cases hn : n = 0
    · simp [powT, g, hn, mulR]
    · simp [powT, g, hn, mulR]
  · obtain ⟨ha, hb⟩ := may_fin h g
    have e1 : mulR a n = if a * n ≤ 1000000000 then (a * n, true) else (0, false) := by
      unfold mulR
      by_cases h0 : a = 0 ∨ (n : Int) = 0
      · have : a * (n : Int) = 0 := by rcases h0 with h0 | h0 <;> rw [h0] <;> simp
        rw [if_pos h0, this]; simp
      · rw [if_neg h0, if_neg (by omega)]
    have e2 : mulR b n = if b * n ≤ 1000000000 then (b * n, true) else (0, false) := by
      unfold mulR
      by_cases h0 : b = 0 ∨ (n : Int) = 0
      · have : b * (n : Int) = 0 := by rcases h0 with h0 | h0 <;> rw [h0] <;> simp
        rw [if_pos h0, this]; simp
      · rw [if_neg h0, if_neg (by omega)]
    rw [e1, e2]
    simp only [powT, g]
    by_cases c1 : a * (n : Int) ≤ 1000000000 <;> by_cases c2 : b * (n : Int) ≤ 1000000000 <;> simp [c1, c2]
theorem twinPower_any (a b n : Int) (w : World) :
    Calls Try.prog 16 #[.agg #[.int .i64 a, .int .i64 b], .int .i64 n] w fun e w' => e = .returned (.tuple #[.agg #[.int .i64 (powerT a b n).1, .int .i64 (powerT a b n).2.1], .int .i64 (powerT a b n).2.2]) ∧ Below w.heap.size w w' := by
  rcases bool_cases (mayB a b) with h | h
  rotate_left
  · rw [powerT_bad (.inl h)]
    go_enter Try.func16, Try.ntmps16
    go_wp2_with (first | (go_at_call 21; refine (twinMay_any _ _ _).mono ?_; rintro e w' ⟨rfl, rfl⟩) | (go_at_call 25; refine (in_any _ _ _ _).mono ?_; rintro e w' ⟨rfl, rfl⟩))
    all_goals
      go_returns
      exact ⟨rfl, by go_grown⟩
  rcases bool_cases (decide (0 ≤ n) && decide (n ≤ 1000000000)) with g | g
  rotate_left
  · rw [powerT_bad (.inr (by simp at g; omega))]
    go_enter Try.func16, Try.ntmps16
    go_wp2_with (first | (go_at_call 21; refine (twinMay_any _ _ _).mono ?_; rintro e w' ⟨rfl, rfl⟩) | (go_at_call 25; refine (in_any _ _ _ _).mono ?_; rw [g]; rintro e w' ⟨rfl, rfl⟩))
    all_goals
      go_returns
      exact ⟨rfl, by go_grown⟩
  have hn : 0 ≤ n ∧ n ≤ 1000000000 := by simpa using g
  obtain ⟨n0, n1⟩ := hn
  obtain ⟨⟨a0, a1⟩, b0, b1⟩ := may_wee h
  have HJ : Hid (powerT a b n = if (mulR a n).2 = true ∧ (mulR b n).2 = true then ((mulR a n).1, (mulR b n).1, 0) else (0, 0, 4)) := by
    show _ = _
    rw [powerT_good h n0 n1, pow_mul h, Int.toNat_of_nonneg n0]
  go_enter Try.func16, Try.ntmps16
  go_wp2_with (first | (go_at_call 21; refine (twinMay_any _ _ _).mono ?_; rintro e w' ⟨rfl, rfl⟩) | (go_at_call 25; refine (in_any _ _ _ _).mono ?_; rw [g]; rintro e w' ⟨rfl, rfl⟩) | (go_at_call 26; refine (mul_any _ _ _ (by omega) (by omega) (by omega) (by omega)).mono ?_; rintro e w' ⟨rfl, rfl⟩))
  all_goals
    go_returns
    exact ⟨tup (by rw [HJ.out]; simp_all), by go_grown⟩
theorem twinPower_of (a b n p q r : Int) (w : World) (h : powerT a b n = (p, q, r)) :
    Calls Try.prog 16 #[.agg #[.int .i64 a, .int .i64 b], .int .i64 n] w fun e w' => e = .returned (.tuple #[.agg #[.int .i64 p, .int .i64 q], .int .i64 r]) ∧ Below w.heap.size w w' := by
  have := twinPower_any a b n w
  rw [h] at this
  exact this
end Go.Proofs.Ythdiigjndeljlaa.Wt
