/- What Times of the program answers, at every argument. -/
import Derived.Test.YthcfkiinjcbajaaWa
namespace Go.Proofs.Ythcfkiinjcbajaa.Wt
open Go.ChangeShapes Go.WideShapes Go.ChangeAt Go.RowKit
open Go.Proofs.Ythcfkiinjcbajaa.Pl
set_option linter.unusedVariables false
theorem two_cellsM (a b : Int) (t : TypeId) (w : World) : ∀ i, i < 2 → (w.alloc (.cells #[.int .i64 a, .int .i64 b] t)).cell? ⟨w.heap.size, 0 + i, none⟩ = some (.int .i64 ([a, b][i]?.getD 0)) := by
  intro i hi
  match i, hi with
  | 0, _ => simp
  | 1, _ => simp
theorem are_twoM (a b : Int) (r : Bool) (t : TypeId) (w : World) (n : Nat) (hn : n = w.heap.size) (h : (wtB a && wtB b) = r) :
    Calls Try.prog 69 #[.slice (some ⟨n, 0, none⟩) 2 2] (w.alloc (.cells #[.int .i64 a, .int .i64 b] t)) fun e w' => e = .returned (.bool r) ∧ (w.alloc (.cells #[.int .i64 a, .int .i64 b] t)) = w' := by
  subst hn
  refine (are_some w.heap.size 0 2 2 [a, b] _ rfl (by decide) (two_cellsM a b t w)).mono ?_
  rintro e w' ⟨rfl, rfl⟩
  exact ⟨ret_bool (by rw [← h]; simp [allW]), rfl⟩
theorem timesM_bad (a b : Int) (w : World) (h : (wtB a && wtB b) = false) :
    Calls Try.prog 49 #[.int .i64 a, .int .i64 b] w fun e w' => e = .returned (.tuple #[.int .i64 (timesR a b).1, .int .i64 (timesR a b).2]) ∧ Below w.heap.size w w' := by
  have HP : Hid (timesR a b = (0, 2)) := by show _ = _; simp [timesR, h]
  have HH : Hid ((wtB a && wtB b) = false) := h
  clear h
  go_enter Try.func49, Try.ntmps49
  go_wp2_with (first | (go_at_call 69; refine (are_twoM _ _ false _ _ _ (by simp) HH.out).mono ?_; rintro e w' ⟨rfl, rfl⟩))
  go_ret2
  exact ⟨ret_pair HP.out, (Below.refl _ _).alloc (Nat.le_refl _) _⟩
set_option maxHeartbeats 1000000 in
theorem timesM_any (a b : Int) (w : World) :
    Calls Try.prog 49 #[.int .i64 a, .int .i64 b] w fun e w' => e = .returned (.tuple #[.int .i64 (timesR a b).1, .int .i64 (timesR a b).2]) ∧ Below w.heap.size w w' := by
  rcases bool_cases (wtB a && wtB b) with h | h
  rotate_left
  · exact timesM_bad a b w h
  have HP : Hid (timesR a b = (if a = 1000000001 ∨ b = 1000000001 then (1000000001, 0) else if 1000000000 < a + b then (0, 4) else (a + b, 0))) := by show _ = _; simp only [timesR, h, if_true]
  have HC : Hid (Two a b) := and_wt h
  have HH : Hid ((wtB a && wtB b) = true) := h
  have HA : Hid (wtB a = true) := by rw [Bool.and_eq_true] at h; exact h.1
  have HB : Hid (wtB b = true) := by rw [Bool.and_eq_true] at h; exact h.2
  clear h
  rcases bool_cases (a == 1000000001) with ea | ea <;> rcases bool_cases (b == 1000000001) with eb | eb
  · have HQ : Hid (timesR a b = (1000000001, 0)) := by show _ = _; rw [HP.out, if_pos (by simp at ea eb; omega)]
    go_enter Try.func49, Try.ntmps49
    go_wp2_with (first | (go_at_call 69; refine (are_twoM _ _ true _ _ _ (by simp) HH.out).mono ?_; rintro e w' ⟨rfl, rfl⟩))
    go_ret2
    exact ⟨ret_pair HQ.out, (Below.refl _ _).alloc (Nat.le_refl _) _⟩
  · have HQ : Hid (timesR a b = (1000000001, 0)) := by show _ = _; rw [HP.out, if_pos (by simp at ea eb; omega)]
    go_enter Try.func49, Try.ntmps49
    go_wp2_with (first | (go_at_call 69; refine (are_twoM _ _ true _ _ _ (by simp) HH.out).mono ?_; rintro e w' ⟨rfl, rfl⟩))
    go_ret2
    exact ⟨ret_pair HQ.out, (Below.refl _ _).alloc (Nat.le_refl _) _⟩
  · have HQ : Hid (timesR a b = (1000000001, 0)) := by show _ = _; rw [HP.out, if_pos (by simp at ea eb; omega)]
    go_enter Try.func49, Try.ntmps49
    go_wp2_with (first | (go_at_call 69; refine (are_twoM _ _ true _ _ _ (by simp) HH.out).mono ?_; rintro e w' ⟨rfl, rfl⟩))
    go_ret2
    exact ⟨ret_pair HQ.out, (Below.refl _ _).alloc (Nat.le_refl _) _⟩
  · have hc : 0 ≤ a ∧ a ≤ 1000000000 ∧ 0 ≤ b ∧ b ≤ 1000000000 := by have := HC.out; unfold Two at this; simp at ea eb; omega
    obtain ⟨h1, h2, h3, h4⟩ := hc
    by_cases hs : 1000000000 < a + b
    · have HQ : Hid (timesR a b = (0, 4)) := by show _ = _; rw [HP.out, if_neg (by simp at ea eb; omega), if_pos hs]
      go_enter Try.func49, Try.ntmps49
      go_wp2_with (first | (go_at_call 69; refine (are_twoM _ _ true _ _ _ (by simp) HH.out).mono ?_; rintro e w' ⟨rfl, rfl⟩))
      go_ret2
      exact ⟨ret_pair HQ.out, (Below.refl _ _).alloc (Nat.le_refl _) _⟩
    · have HQ : Hid (timesR a b = (a + b, 0)) := by show _ = _; rw [HP.out, if_neg (by simp at ea eb; omega), if_neg hs]
      go_enter Try.func49, Try.ntmps49
      go_wp2_with (first | (go_at_call 69; refine (are_twoM _ _ true _ _ _ (by simp) HH.out).mono ?_; rintro e w' ⟨rfl, rfl⟩))
      go_ret2
      exact ⟨ret_pair HQ.out, (Below.refl _ _).alloc (Nat.le_refl _) _⟩
end Go.Proofs.Ythcfkiinjcbajaa.Wt
