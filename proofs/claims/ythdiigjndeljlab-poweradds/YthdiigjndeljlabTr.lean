/- What Power of the program and TwinPower of the reference answer. -/
import Derived.Test.YthdiigjndeljlabTq
namespace Go.Proofs.Ythdiigjndeljlab.Wt
open Go.ChangeShapes Go.WideShapes Go.ChangeAt Go.RowKit
open Go.Proofs.Ythdiigjndeljlab.Pl
set_option linter.unusedVariables false

def powerT (a b n : Int) : Int × Int × Int := if mayB a b = true ∧ 0 ≤ n ∧ n ≤ 1000000000 then powT a b n.toNat else (0, 0, 2)
theorem powerT_good {a b n : Int} (h : mayB a b = true) (h0 : 0 ≤ n) (h1 : n ≤ 1000000000) : powerT a b n = powT a b n.toNat := by
  unfold powerT; rw [if_pos ⟨h, h0, h1⟩]
theorem powerT_bad {a b n : Int} (h : mayB a b = false ∨ n < 0 ∨ 1000000000 < n) : powerT a b n = (0, 0, 2) := by
  unfold powerT
  rw [if_neg]
  rintro ⟨h1, h2, h3⟩
  rcases h with h | h | h
  · rw [h] at h1; cases h1
  · omega
  · omega
theorem power_bad (a b n : Int) (w : World) (h : mayB a b = false ∨ n < 0 ∨ 1000000000 < n) :
    Calls Try.prog 5 #[.agg #[.int .i64 a, .int .i64 b], .int .i64 n] w fun e w' => e = .returned (.tuple #[.agg #[.int .i64 0, .int .i64 0], .int .i64 2]) ∧ Below w.heap.size w w' := by
  rcases bool_cases (mayB a b) with g | g
  · by_cases h0 : n < 0
    · clear h
      go_enter Try.func5, Try.ntmps5
      go_wp2_with (first | (go_at_call 7; refine (mayBe_any _ _ _).mono ?_; rintro e w' ⟨rfl, rfl⟩))
      all_goals
        go_returns
        exact ⟨rfl, by go_grown⟩
    · have h1 : 1000000000 < n := by
        rcases h with h | h | h
        · rw [h] at g; cases g
        · omega
        · omega
      clear h
      go_enter Try.func5, Try.ntmps5
      go_wp2_with (first | (go_at_call 7; refine (mayBe_any _ _ _).mono ?_; rintro e w' ⟨rfl, rfl⟩))
      all_goals
        go_returns
        exact ⟨rfl, by go_grown⟩
  · clear h
    go_enter Try.func5, Try.ntmps5
    go_wp2_with (first | (go_at_call 7; refine (mayBe_any _ _ _).mono ?_; rintro e w' ⟨rfl, rfl⟩))
    all_goals
      go_returns
      exact ⟨rfl, by go_grown⟩
theorem powerT_any (a b n : Int) (w : World) :
    Calls Try.prog 5 #[.agg #[.int .i64 a, .int .i64 b], .int .i64 n] w fun e w' => e = .returned (.tuple #[.agg #[.int .i64 (powerT a b n).1, .int .i64 (powerT a b n).2.1], .int .i64 (powerT a b n).2.2]) ∧ Below w.heap.size w w' := by
  by_cases hg : mayB a b = true ∧ 0 ≤ n ∧ n ≤ 1000000000
  rotate_left
  · have hb : mayB a b = false ∨ n < 0 ∨ 1000000000 < n := by
      rcases bool_cases (mayB a b) with g | g
      · by_cases h0 : n < 0
        · exact .inr (.inl h0)
        · by_cases h1 : n ≤ 1000000000
          · exact absurd ⟨g, by omega, h1⟩ hg
          · exact .inr (.inr (by omega))
      · exact .inl g
    rw [powerT_bad hb]
    exact power_bad a b n w hb
  obtain ⟨h, h0, h1⟩ := hg
  rw [powerT_good h h0 h1]
  obtain ⟨m, rfl⟩ : ∃ m : Nat, n = m := ⟨n.toNat, by omega⟩
  simp only [Int.toNat_natCast]
  have HT : Hid (∀ w : World, Calls Try.prog 8 #[.agg #[.int .i64 a, .int .i64 b], .int .i64 m] w fun e w' => e = .returned (.tuple #[.agg #[.int .i64 (powT a b m).1, .int .i64 (powT a b m).2.1], .int .i64 (powT a b m).2.2]) ∧ Below w.heap.size w w') := fun w => power_any a b m w h (by omega)
  generalize powT a b m = t at HT ⊢
  obtain ⟨p, q, r⟩ := t
  go_enter Try.func5, Try.ntmps5
  go_wp2_with (first | (go_at_call 7; refine (mayBe_any _ _ _).mono ?_; rintro e w' ⟨rfl, rfl⟩) | (go_at_call 8; (with_reducible refine (HT.out _).mono ?_); rintro e w1 ⟨rfl, hb⟩; (have sw1_0 : w.heap.size + 1 < w1.heap.size := below_lt hb (by go_size); have cw1_0 : w1.cell? ⟨w.heap.size + 1, 0, none⟩ = some (.int .i64 0) := below_at hb (show w.heap.size + 1 < _ by go_size) (by first | go_cell | simp [*]); have cw1_1 : w1.cell? ⟨w.heap.size + 1, 1, none⟩ = some (.int .i64 0) := below_at hb (show w.heap.size + 1 < _ by go_size) (by first | go_cell | simp [*]); have fw1_2 : w1.frozen? ⟨w.heap.size + 1, 0, none⟩ = false := below_fz hb (show w.heap.size + 1 < _ by go_size) (by first | go_cell | simp [*, go_sem]); have fw1_3 : w1.frozen? ⟨w.heap.size + 1, 1, none⟩ = false := below_fz hb (show w.heap.size + 1 < _ by go_size) (by first | go_cell | simp [*, go_sem]); have Hw1 : Hid (Below w.heap.size w w1) := Below.trans (by go_grown) (hb.mono (by go_size)); clear hb)))
  have hw1 := Hw1.out
  exact bodyPost_ret (v := .tuple #[.agg #[.int .i64 p, .int .i64 q], .int .i64 r]) (by simp [results, Try.results5, go_sem, *]) rfl ⟨rfl, by go_grown⟩
theorem powerT_of (a b n p q r : Int) (w : World) (h : powerT a b n = (p, q, r)) :
    Calls Try.prog 5 #[.agg #[.int .i64 a, .int .i64 b], .int .i64 n] w fun e w' => e = .returned (.tuple #[.agg #[.int .i64 p, .int .i64 q], .int .i64 r]) ∧ Below w.heap.size w w' := by
  have := powerT_any a b n w
  rw [h] at this
  exact this
end Go.Proofs.Ythdiigjndeljlab.Wt
