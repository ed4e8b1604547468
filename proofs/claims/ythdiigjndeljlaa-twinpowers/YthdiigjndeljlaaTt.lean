/- What Times of twins of the program answers. -/
import Derived.Test.YthdiigjndeljlaaTw
import Derived.Test.YthdiigjndeljlaaPlainP
namespace Go.Proofs.Ythdiigjndeljlaa.Wt
open Go.ChangeShapes Go.WideShapes Go.ChangeAt Go.RowKit
open Go.Proofs.Ythdiigjndeljlaa.Pl
set_option linter.unusedVariables false

def timesT (a b c d : Int) : Int × Int × Int := if (mayB a b && mayB c d) = true then thenT a b c d else (0, 0, 2)
theorem may_wee {a b : Int} (h : mayB a b = true) : (0 ≤ a ∧ a ≤ 1000000001) ∧ (0 ≤ b ∧ b ≤ 1000000001) := by
  rw [mayB_iff] at h; omega
theorem then_any (a b c d : Int) (w : World) (a0 : 0 ≤ a) (a1 : a ≤ 1000000001) (b0 : 0 ≤ b) (b1 : b ≤ 1000000001) (c0 : 0 ≤ c) (c1 : c ≤ 1000000001) (d0 : 0 ≤ d) (d1 : d ≤ 1000000001) :
    Calls Try.prog 22 #[.agg #[.int .i64 a, .int .i64 b], .agg #[.int .i64 c, .int .i64 d]] w fun e w' => e = .returned (.tuple #[.agg #[.int .i64 (thenT a b c d).1, .int .i64 (thenT a b c d).2.1], .int .i64 (thenT a b c d).2.2]) ∧ Below w.heap.size w w' := by
  go_enter Try.func22, Try.ntmps22
  go_wp2_with (first | (go_at_call 28; refine (isInf_any _ _ _).mono ?_; rintro e w' ⟨rfl, rfl⟩))
  all_goals
    go_returns
    exact ⟨tup (by simp_all [thenT] <;> omega), by go_grown⟩
theorem timesT_any (a b c d : Int) (w : World) :
    Calls Try.prog 13 #[.agg #[.int .i64 a, .int .i64 b], .agg #[.int .i64 c, .int .i64 d]] w fun e w' => e = .returned (.tuple #[.agg #[.int .i64 (timesT a b c d).1, .int .i64 (timesT a b c d).2.1], .int .i64 (timesT a b c d).2.2]) ∧ Below w.heap.size w w' := by
  rcases bool_cases (mayB a b) with h | h <;> rcases bool_cases (mayB c d) with g | g
  · obtain ⟨⟨a0, a1⟩, b0, b1⟩ := may_wee h
    obtain ⟨⟨c0, c1⟩, d0, d1⟩ := may_wee g
    have ht : timesT a b c d = thenT a b c d := by simp [timesT, h, g]
    rw [ht]
    clear ht
    have HT := then_any a b c d
    generalize thenT a b c d = t at HT ⊢
    obtain ⟨p, q, r⟩ := t
    have HU : Hid (∀ w : World, Calls Try.prog 22 #[.agg #[.int .i64 a, .int .i64 b], .agg #[.int .i64 c, .int .i64 d]] w fun e w' => e = .returned (.tuple #[.agg #[.int .i64 p, .int .i64 q], .int .i64 r]) ∧ Below w.heap.size w w') := fun w => HT w a0 a1 b0 b1 c0 c1 d0 d1
    clear HT a0 a1 b0 b1 c0 c1 d0 d1
    go_enter Try.func13, Try.ntmps13
    go_wp2_with (first | (go_at_call 20; refine (mayBe_any _ _ _).mono ?_; rintro e w' ⟨rfl, rfl⟩) | (go_at_call 22; refine (HU.out _).mono ?_; rintro e w1 ⟨rfl, hb⟩; (have sw1_0 : w.heap.size + 1 + 1 < w1.heap.size := below_lt hb (by go_size); have cw1_0 : w1.cell? ⟨w.heap.size + 1 + 1, 0, none⟩ = some (.int .i64 0) := below_at hb (show w.heap.size + 1 + 1 < _ by go_size) (by first | go_cell | simp [*]); have cw1_1 : w1.cell? ⟨w.heap.size + 1 + 1, 1, none⟩ = some (.int .i64 0) := below_at hb (show w.heap.size + 1 + 1 < _ by go_size) (by first | go_cell | simp [*]); have fw1_2 : w1.frozen? ⟨w.heap.size + 1 + 1, 0, none⟩ = false := below_fz hb (show w.heap.size + 1 + 1 < _ by go_size) (by first | go_cell | simp [*, go_sem]); have fw1_3 : w1.frozen? ⟨w.heap.size + 1 + 1, 1, none⟩ = false := below_fz hb (show w.heap.size + 1 + 1 < _ by go_size) (by first | go_cell | simp [*, go_sem]); have Hw1 : Hid (Below w.heap.size w w1) := Below.trans (by go_grown) (hb.mono (by go_size)); clear hb)))
    all_goals
      have hw1 := Hw1.out
      exact bodyPost_ret (v := .tuple #[.agg #[.int .i64 p, .int .i64 q], .int .i64 r]) (by simp [results, Try.results13, go_sem, *]) rfl ⟨rfl, by go_grown⟩
  all_goals
    have ht : timesT a b c d = (0, 0, 2) := by simp [timesT, h, g]
    rw [ht]
    clear ht
    go_enter Try.func13, Try.ntmps13
    go_wp2_with (first | (go_at_call 20; refine (mayBe_any _ _ _).mono ?_; rintro e w' ⟨rfl, rfl⟩))
    all_goals
      go_returns
      exact ⟨rfl, by go_grown⟩
theorem timesT_of (a b c d p q r : Int) (w : World) (h : timesT a b c d = (p, q, r)) :
    Calls Try.prog 13 #[.agg #[.int .i64 a, .int .i64 b], .agg #[.int .i64 c, .int .i64 d]] w fun e w' => e = .returned (.tuple #[.agg #[.int .i64 p, .int .i64 q], .int .i64 r]) ∧ Below w.heap.size w w' := by
  have := timesT_any a b c d w
  rw [h] at this
  exact this
end Go.Proofs.Ythdiigjndeljlaa.Wt
