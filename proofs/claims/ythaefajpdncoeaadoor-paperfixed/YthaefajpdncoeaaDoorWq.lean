/- What the reference's WeightRead answers, at every text (without weight's functions). -/
import Derived.Test.YthaefajpdncoeaaDoorNu
namespace Go.Proofs.YthaefajpdncoeaaDoor.Wt
open Go.ChangeShapes Go.WideShapes Go.ChangeAt Go.RowKit
open Go.Proofs.YthaefajpdncoeaaDoor.Pl
set_option linter.unusedVariables false
theorem numR_cases (s : ByteArray) (h : (s.toList == [105, 110, 102]) = false) :
    (numR s 1000000000 = -1 ∧ readR s = (0, 1)) ∨ (numR s 1000000000 = -2 ∧ readR s = (0, 3)) ∨ (numR s 1000000000 = 1000000001 ∧ readR s = (0, 4)) ∨ ∃ v, 0 ≤ v ∧ v ≤ 1000000000 ∧ numR s 1000000000 = v ∧ readR s = (v, 0) := by
  have hi : (s.toList == [105, 110, 102]) ≠ true := by rw [h]; simp
  unfold numR readR
  rw [if_neg hi]
  by_cases hl : 12 < s.size
  · rw [if_pos hl, if_pos hl]; exact .inl ⟨rfl, rfl⟩
  · rw [if_neg hl, if_neg hl]
    rcases bool_cases (numB (bl s)) with hn | hn
    · have hb := numV_bd _ (numB_all hn)
      have hn' : ¬ numB (bl s) = false := by rw [hn]; simp
      rw [if_neg hn', if_neg hn']
      by_cases hv : 1000000000 < numV (bl s)
      · rw [if_pos hv, if_pos hv]; exact .inr (.inr (.inl ⟨rfl, rfl⟩))
      · rw [if_neg hv, if_neg hv]; exact .inr (.inr (.inr ⟨_, hb.1, by omega, rfl, rfl⟩))
    · rw [if_pos hn, if_pos hn]; exact .inr (.inl ⟨rfl, rfl⟩)

set_option maxHeartbeats 1000000 in
theorem weightRead_any (s : ByteArray) (w : World) (hs : s.size ≤ maxLen) :
    Calls Tryd.prog 28 #[.string s] w fun e w' => e = .returned (.tuple #[.int .i64 (readR s).1, .int .i64 (readR s).2]) ∧ w = w' := by
  have HZ : Hid (s.size ≤ maxLen) := hs
  clear hs
  rcases bool_cases (s.toList == [105, 110, 102]) with hi | hi
  · have HQ : Hid (readR s = (1000000001, 0)) := by show _ = _; unfold readR; rw [if_pos hi]
    go_enter Tryd.func28, Tryd.ntmps28
    go_wp2
    go_ret2
    exact ⟨ret_pair HQ.out, rfl⟩
  · rcases numR_cases s hi with ⟨hn, hq⟩ | ⟨hn, hq⟩ | ⟨hn, hq⟩ | ⟨v, b1, b2, hn, hq⟩
    · have HN : Hid (numR s 1000000000 = -1) := hn
      have HQ : Hid (readR s = (0, 1)) := hq
      clear hn hq
      go_enter Tryd.func28, Tryd.ntmps28
      go_wp2_with (first | (go_at_call 27; refine (number_any _ _ _ HZ.out (by omega) (by omega) _ HN.out).mono ?_; rintro e w' ⟨rfl, rfl⟩))
      go_ret2
      exact ⟨ret_pair HQ.out, rfl⟩
    · have HN : Hid (numR s 1000000000 = -2) := hn
      have HQ : Hid (readR s = (0, 3)) := hq
      clear hn hq
      go_enter Tryd.func28, Tryd.ntmps28
      go_wp2_with (first | (go_at_call 27; refine (number_any _ _ _ HZ.out (by omega) (by omega) _ HN.out).mono ?_; rintro e w' ⟨rfl, rfl⟩))
      go_ret2
      exact ⟨ret_pair HQ.out, rfl⟩
    · have HN : Hid (numR s 1000000000 = 1000000001) := hn
      have HQ : Hid (readR s = (0, 4)) := hq
      clear hn hq
      go_enter Tryd.func28, Tryd.ntmps28
      go_wp2_with (first | (go_at_call 27; refine (number_any _ _ _ HZ.out (by omega) (by omega) _ HN.out).mono ?_; rintro e w' ⟨rfl, rfl⟩))
      go_ret2
      exact ⟨ret_pair HQ.out, rfl⟩
    · have HN : Hid (numR s 1000000000 = v) := hn
      have HQ : Hid (readR s = (v, 0)) := hq
      have e1 : (v == -1) = false := by simp; omega
      have e2 : (v == -2) = false := by simp; omega
      clear hn hq
      go_enter Tryd.func28, Tryd.ntmps28
      go_wp2_with (first | (go_at_call 27; refine (number_any _ _ _ HZ.out (by omega) (by omega) _ HN.out).mono ?_; rintro e w' ⟨rfl, rfl⟩))
      go_ret2
      exact ⟨ret_pair HQ.out, rfl⟩
end Go.Proofs.YthaefajpdncoeaaDoor.Wt
