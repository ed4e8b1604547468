/- What Times and Over of the program answer, each at every argument. -/
import Derived.Test.YtanibikfhnglkabWt
namespace Go.Proofs.Ytanibikfhnglkab.Wt
open Go.ChangeShapes Go.WideShapes Go.ChangeAt Go.RowKit
open Go.Proofs.Ytanibikfhnglkab.Pl
set_option linter.unusedVariables false

theorem times_bad (a b : Int) (w : World) (h : (wtB a && wtB b) = false) :
    Calls Try.prog 14 #[.int .i64 a, .int .i64 b] w fun e w' => e = .returned (.tuple #[.int .i64 (timesR a b).1, .int .i64 (timesR a b).2]) ∧ Below w.heap.size w w' := by
  have HP : Hid (timesR a b = (0, 2)) := by show _ = _; simp [timesR, h]
  have HH : Hid ((wtB a && wtB b) = false) := h
  clear h
  go_enter Try.func14, Try.ntmps14
  go_wp2_with (first | (go_at_call 15; refine (are_two _ _ false _ _ _ (by simp) HH.out).mono ?_; rintro e w' ⟨rfl, rfl⟩))
  go_ret2
  exact ⟨ret_pair HP.out, (Below.refl _ _).alloc (Nat.le_refl _) _⟩
set_option maxHeartbeats 1000000 in
theorem times_any (a b : Int) (w : World) :
    Calls Try.prog 14 #[.int .i64 a, .int .i64 b] w fun e w' => e = .returned (.tuple #[.int .i64 (timesR a b).1, .int .i64 (timesR a b).2]) ∧ Below w.heap.size w w' := by
  rcases bool_cases (wtB a && wtB b) with h | h
  rotate_left
  · exact times_bad a b w h
  have HP : Hid (timesR a b = (if a = 1000000001 ∨ b = 1000000001 then (1000000001, 0) else if 1000000000 < a + b then (0, 4) else (a + b, 0))) := by show _ = _; simp only [timesR, h, if_true]
  have HC : Hid (Two a b) := and_wt h
  have HH : Hid ((wtB a && wtB b) = true) := h
  have HA : Hid (wtB a = true) := by rw [Bool.and_eq_true] at h; exact h.1
  have HB : Hid (wtB b = true) := by rw [Bool.and_eq_true] at h; exact h.2
  clear h
  rcases bool_cases (a == 1000000001) with ea | ea <;> rcases bool_cases (b == 1000000001) with eb | eb
  · have HQ : Hid (timesR a b = (1000000001, 0)) := by show _ = _; rw [HP.out, if_pos (by simp at ea eb; omega)]
    go_enter Try.func14, Try.ntmps14
    go_wp2_with (first | (go_at_call 15; refine (are_two _ _ true _ _ _ (by simp) HH.out).mono ?_; rintro e w' ⟨rfl, rfl⟩))
    go_ret2
    exact ⟨ret_pair HQ.out, (Below.refl _ _).alloc (Nat.le_refl _) _⟩
  · have HQ : Hid (timesR a b = (1000000001, 0)) := by show _ = _; rw [HP.out, if_pos (by simp at ea eb; omega)]
    go_enter Try.func14, Try.ntmps14
    go_wp2_with (first | (go_at_call 15; refine (are_two _ _ true _ _ _ (by simp) HH.out).mono ?_; rintro e w' ⟨rfl, rfl⟩))
    go_ret2
    exact ⟨ret_pair HQ.out, (Below.refl _ _).alloc (Nat.le_refl _) _⟩
  · have HQ : Hid (timesR a b = (1000000001, 0)) := by show _ = _; rw [HP.out, if_pos (by simp at ea eb; omega)]
    go_enter Try.func14, Try.ntmps14
    go_wp2_with (first | (go_at_call 15; refine (are_two _ _ true _ _ _ (by simp) HH.out).mono ?_; rintro e w' ⟨rfl, rfl⟩))
    go_ret2
    exact ⟨ret_pair HQ.out, (Below.refl _ _).alloc (Nat.le_refl _) _⟩
  · have hc : 0 ≤ a ∧ a ≤ 1000000000 ∧ 0 ≤ b ∧ b ≤ 1000000000 := by have := HC.out; unfold Two at this; simp at ea eb; omega
    obtain ⟨h1, h2, h3, h4⟩ := hc
    by_cases hs : 1000000000 < a + b
    · have HQ : Hid (timesR a b = (0, 4)) := by show _ = _; rw [HP.out, if_neg (by simp at ea eb; omega), if_pos hs]
      go_enter Try.func14, Try.ntmps14
      go_wp2_with (first | (go_at_call 15; refine (are_two _ _ true _ _ _ (by simp) HH.out).mono ?_; rintro e w' ⟨rfl, rfl⟩))
      go_ret2
      exact ⟨ret_pair HQ.out, (Below.refl _ _).alloc (Nat.le_refl _) _⟩
    · have HQ : Hid (timesR a b = (a + b, 0)) := by show _ = _; rw [HP.out, if_neg (by simp at ea eb; omega), if_neg hs]
      go_enter Try.func14, Try.ntmps14
      go_wp2_with (first | (go_at_call 15; refine (are_two _ _ true _ _ _ (by simp) HH.out).mono ?_; rintro e w' ⟨rfl, rfl⟩))
      go_ret2
      exact ⟨ret_pair HQ.out, (Below.refl _ _).alloc (Nat.le_refl _) _⟩
theorem over_bad (a b : Int) (w : World) (h : (wtB a && wtB b) = false) :
    Calls Try.prog 9 #[.int .i64 a, .int .i64 b] w fun e w' => e = .returned (.tuple #[.int .i64 (overR a b).1, .int .i64 (overR a b).2]) ∧ Below w.heap.size w w' := by
  have HP : Hid (overR a b = (0, 2)) := by show _ = _; simp [overR, h]
  have HH : Hid ((wtB a && wtB b) = false) := h
  clear h
  go_enter Try.func9, Try.ntmps9
  go_wp2_with (first | (go_at_call 15; refine (are_two _ _ false _ _ _ (by simp) HH.out).mono ?_; rintro e w' ⟨rfl, rfl⟩))
  go_ret2
  exact ⟨ret_pair HP.out, (Below.refl _ _).alloc (Nat.le_refl _) _⟩
set_option maxHeartbeats 1000000 in
theorem over_any (a b : Int) (w : World) :
    Calls Try.prog 9 #[.int .i64 a, .int .i64 b] w fun e w' => e = .returned (.tuple #[.int .i64 (overR a b).1, .int .i64 (overR a b).2]) ∧ Below w.heap.size w w' := by
  rcases bool_cases (wtB a && wtB b) with h | h
  rotate_left
  · exact over_bad a b w h
  have HP : Hid (overR a b = (if b = 1000000001 ∨ a < b then (0, 12) else if a = 1000000001 then (1000000001, 0) else (a - b, 0))) := by show _ = _; simp only [overR, h, if_true]
  have HC : Hid (Two a b) := and_wt h
  have HH : Hid ((wtB a && wtB b) = true) := h
  have HA : Hid (wtB a = true) := by rw [Bool.and_eq_true] at h; exact h.1
  have HB : Hid (wtB b = true) := by rw [Bool.and_eq_true] at h; exact h.2
  clear h
  rcases bool_cases (b == 1000000001) with eb | eb
  · have HQ : Hid (overR a b = (0, 12)) := by show _ = _; rw [HP.out, if_pos (by simp at eb; omega)]
    go_enter Try.func9, Try.ntmps9
    go_wp2_with (first | (go_at_call 15; refine (are_two _ _ true _ _ _ (by simp) HH.out).mono ?_; rintro e w' ⟨rfl, rfl⟩))
    go_ret2
    exact ⟨ret_pair HQ.out, (Below.refl _ _).alloc (Nat.le_refl _) _⟩
  · rcases bool_cases (a == 1000000001) with ea | ea
    · have hl : ¬ a < b := by have := HC.out; unfold Two at this; simp at ea eb; omega
      have HQ : Hid (overR a b = (1000000001, 0)) := by show _ = _; rw [HP.out, if_neg (by simp at ea eb; omega), if_pos (by simpa using ea)]
      go_enter Try.func9, Try.ntmps9
      go_wp2_with (first | (go_at_call 15; refine (are_two _ _ true _ _ _ (by simp) HH.out).mono ?_; rintro e w' ⟨rfl, rfl⟩))
      go_ret2
      exact ⟨ret_pair HQ.out, (Below.refl _ _).alloc (Nat.le_refl _) _⟩
    · have hc : 0 ≤ a ∧ a ≤ 1000000000 ∧ 0 ≤ b ∧ b ≤ 1000000000 := by have := HC.out; unfold Two at this; simp at ea eb; omega
      obtain ⟨h1, h2, h3, h4⟩ := hc
      by_cases hl : a < b
      · have HQ : Hid (overR a b = (0, 12)) := by show _ = _; rw [HP.out, if_pos (by omega)]
        go_enter Try.func9, Try.ntmps9
        go_wp2_with (first | (go_at_call 15; refine (are_two _ _ true _ _ _ (by simp) HH.out).mono ?_; rintro e w' ⟨rfl, rfl⟩))
        go_ret2
        exact ⟨ret_pair HQ.out, (Below.refl _ _).alloc (Nat.le_refl _) _⟩
      · have HQ : Hid (overR a b = (a - b, 0)) := by show _ = _; rw [HP.out, if_neg (by simp at ea eb; omega), if_neg (by simpa using ea)]
        go_enter Try.func9, Try.ntmps9
        go_wp2_with (first | (go_at_call 15; refine (are_two _ _ true _ _ _ (by simp) HH.out).mono ?_; rintro e w' ⟨rfl, rfl⟩))
        go_ret2
        exact ⟨ret_pair HQ.out, (Below.refl _ _).alloc (Nat.le_refl _) _⟩
end Go.Proofs.Ytanibikfhnglkab.Wt
