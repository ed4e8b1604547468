/- What the reference's IsWeight answers, at every number. What the reference's Joined answers, at every two numbers (the text of Wr, without what it needs not). -/
import Derived.Test.YthcfkiinjcbajaaRows
import Derived.Test.YthcfkiinjcbajaaJ16q
import Derived.WalkKit
import Derived.ProofKit
import Derived.OpenShut
namespace Go.Proofs.Ythcfkiinjcbajaa.Wt
open Go.ChangeShapes Go.WideShapes Go.ChangeAt Go.RowKit
open Go.Proofs.Ythcfkiinjcbajaa.Pl
set_option linter.unusedVariables false

theorem isWeight_any (n : Int) (w : World) :
    Calls Try.prog 53 #[.int .i64 n] w fun e w' => e = .returned (.bool (wtB n)) ∧ w' = w := by
  by_cases hx : n = 1000000001
  · subst hx
    go_enter Try.func53, Try.ntmps53
    go_wp2
    go_ret
    exact ⟨rfl, rfl⟩
  · have hne : (n == 1000000001) = false := by simpa using hx
    by_cases h0 : 0 ≤ n
    · by_cases h1 : n ≤ 1000000000
      · go_enter Try.func53, Try.ntmps53
        go_wp2
        go_ret
        exact ⟨ret_bool (wtB_true.2 (by omega)).symm, rfl⟩
      · go_enter Try.func53, Try.ntmps53
        go_wp2
        go_ret
        exact ⟨ret_bool (wtB_false.2 (by omega)).symm, rfl⟩
    · go_enter Try.func53, Try.ntmps53
      go_wp2
      go_ret
      exact ⟨ret_bool (wtB_false.2 (by omega)).symm, rfl⟩
theorem isWeight_of (n : Int) (r : Bool) (w : World) (h : wtB n = r) :
    Calls Try.prog 53 #[.int .i64 n] w fun e w' => e = .returned (.bool r) ∧ w = w' := by
  refine (isWeight_any n w).mono ?_
  rintro e w' ⟨rfl, rfl⟩
  exact ⟨ret_bool h, rfl⟩

end Go.Proofs.Ythcfkiinjcbajaa.Wt
namespace Go.Proofs.Ythcfkiinjcbajaa.Wt
open Go.ChangeShapes Go.WideShapes Go.ChangeAt Go.RowKit
open Go.Proofs.Ythcfkiinjcbajaa.Pl
set_option linter.unusedVariables false

theorem joined_bad (a b : Int) (w : World) (h : (wtB a && wtB b) = false) :
    Calls Try.prog 32 #[.int .i64 a, .int .i64 b] w fun e w' => e = .returned (.tuple #[.int .i64 (timesR a b).1, .int .i64 (timesR a b).2]) ∧ w' = w := by
  have HP : Hid (timesR a b = (0, 2)) := by show _ = _; simp [timesR, h]
  rcases bool_cases (wtB a) with g | g
  · have HA : Hid (wtB a = true) := g
    have HB : Hid (wtB b = false) := by show _ = _; rw [g] at h; simpa using h
    clear h g
    go_enter Try.func32, Try.ntmps32
    go_wp2_with (first | (go_at_call 53; refine (isWeight_of _ true _ ?_).mono ?_; (exact HA.out); rintro e w' ⟨rfl, rfl⟩) | (go_at_call 53; refine (isWeight_of _ false _ ?_).mono ?_; (exact HB.out); rintro e w' ⟨rfl, rfl⟩))
    go_ret2
    exact ⟨ret_pair HP.out, rfl⟩
  · have HA : Hid (wtB a = false) := g
    clear h g
    go_enter Try.func32, Try.ntmps32
    go_wp2_with (first | (go_at_call 53; refine (isWeight_of _ false _ ?_).mono ?_; (exact HA.out); rintro e w' ⟨rfl, rfl⟩))
    go_ret2
    exact ⟨ret_pair HP.out, rfl⟩
set_option maxHeartbeats 1000000 in
theorem joined_any (a b : Int) (w : World) :
    Calls Try.prog 32 #[.int .i64 a, .int .i64 b] w fun e w' => e = .returned (.tuple #[.int .i64 (timesR a b).1, .int .i64 (timesR a b).2]) ∧ w' = w := by
  rcases bool_cases (wtB a && wtB b) with h | h
  rotate_left
  · exact joined_bad a b w h
  have HP : Hid (timesR a b = (if a = 1000000001 ∨ b = 1000000001 then (1000000001, 0) else if 1000000000 < a + b then (0, 4) else (a + b, 0))) := by show _ = _; simp only [timesR, h, if_true]
  have HC : Hid (Two a b) := and_wt h
  have HA : Hid (wtB a = true) := by rw [Bool.and_eq_true] at h; exact h.1
  have HB : Hid (wtB b = true) := by rw [Bool.and_eq_true] at h; exact h.2
  clear h
  rcases bool_cases (a == 1000000001) with ea | ea <;> rcases bool_cases (b == 1000000001) with eb | eb
  · have HQ : Hid (timesR a b = (1000000001, 0)) := by show _ = _; rw [HP.out, if_pos (by simp at ea eb; omega)]
    go_enter Try.func32, Try.ntmps32
    go_wp2_with (first | (go_at_call 53; refine (isWeight_of _ true _ ?_).mono ?_; (first | exact HA.out | exact HB.out); rintro e w' ⟨rfl, rfl⟩))
    go_ret2
    exact ⟨ret_pair HQ.out, rfl⟩
  · have HQ : Hid (timesR a b = (1000000001, 0)) := by show _ = _; rw [HP.out, if_pos (by simp at ea eb; omega)]
    go_enter Try.func32, Try.ntmps32
    go_wp2_with (first | (go_at_call 53; refine (isWeight_of _ true _ ?_).mono ?_; (first | exact HA.out | exact HB.out); rintro e w' ⟨rfl, rfl⟩))
    go_ret2
    exact ⟨ret_pair HQ.out, rfl⟩
  · have HQ : Hid (timesR a b = (1000000001, 0)) := by show _ = _; rw [HP.out, if_pos (by simp at ea eb; omega)]
    go_enter Try.func32, Try.ntmps32
    go_wp2_with (first | (go_at_call 53; refine (isWeight_of _ true _ ?_).mono ?_; (first | exact HA.out | exact HB.out); rintro e w' ⟨rfl, rfl⟩))
    go_ret2
    exact ⟨ret_pair HQ.out, rfl⟩
  · have hc : 0 ≤ a ∧ a ≤ 1000000000 ∧ 0 ≤ b ∧ b ≤ 1000000000 := by have := HC.out; unfold Two at this; simp at ea eb; omega
    obtain ⟨h1, h2, h3, h4⟩ := hc
    by_cases hs : 1000000000 < a + b
    · have HQ : Hid (timesR a b = (0, 4)) := by show _ = _; rw [HP.out, if_neg (by simp at ea eb; omega), if_pos hs]
      have hs' : 1000000000 - b < a := by omega
      go_enter Try.func32, Try.ntmps32
      go_wp2_with (first | (go_at_call 53; refine (isWeight_of _ true _ ?_).mono ?_; (first | exact HA.out | exact HB.out); rintro e w' ⟨rfl, rfl⟩))
      go_ret2
      exact ⟨ret_pair HQ.out, rfl⟩
    · have HQ : Hid (timesR a b = (a + b, 0)) := by show _ = _; rw [HP.out, if_neg (by simp at ea eb; omega), if_neg hs]
      have hs' : ¬ 1000000000 - b < a := by omega
      go_enter Try.func32, Try.ntmps32
      go_wp2_with (first | (go_at_call 53; refine (isWeight_of _ true _ ?_).mono ?_; (first | exact HA.out | exact HB.out); rintro e w' ⟨rfl, rfl⟩))
      go_ret2
      exact ⟨ret_pair HQ.out, rfl⟩
end Go.Proofs.Ythcfkiinjcbajaa.Wt
