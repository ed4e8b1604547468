/- Which texts may be names: what the reference answers. -/
import Derived.Test.YtljpbkkofalinaaDoorRows
import Derived.Test.YtljpbkkofalinaaDoorPlainM
import Derived.WalkKit
import Derived.ProofKit
import Derived.OpenShut
import Derived.Below
import Derived.Handy
import Derived.BigQuiet
import Derived.Deep.QuietTactic
import Derived.LoopTactic
import Derived.WalkSmall
namespace Go.Proofs.YtljpbkkofalinaaDoor.Wt
open Go.ChangeShapes Go.WideShapes Go.ChangeAt Go.RowKit
open Go.Proofs.YtljpbkkofalinaaDoor.Pl
set_option linter.unusedVariables false
theorem inR_any (x lo hi : Int) (w : World) (r : Bool) (hr : (decide (lo ≤ x) && decide (x ≤ hi)) = r) :
    Calls Tryd.prog 28 #[.int .i64 x, .int .i64 lo, .int .i64 hi] w fun e w' => e = .returned (.bool r) ∧ w' = w := by
  subst hr
  by_cases h1 : lo ≤ x
  · by_cases h2 : x ≤ hi
    · go_enter Tryd.func28, Tryd.ntmps28
      go_wp2
      go_ret
      exact ⟨ret_bool (by simp; omega), rfl⟩
    · go_enter Tryd.func28, Tryd.ntmps28
      go_wp2
      go_ret
      exact ⟨ret_bool (by simp; omega), rfl⟩
  · go_enter Tryd.func28, Tryd.ntmps28
    go_wp2
    go_ret
    exact ⟨ret_bool (by simp; omega), rfl⟩
theorem digitR_any (c : Int) (w : World) (r : Bool) (hr : (decide (48 ≤ c) && decide (c ≤ 57)) = r) :
    Calls Tryd.prog 34 #[.int .u8 c] w fun e w' => e = .returned (.bool r) ∧ w' = w := by
  subst hr
  by_cases h1 : 48 ≤ c
  · by_cases h2 : c ≤ 57
    · go_enter Tryd.func34, Tryd.ntmps34
      go_wp2
      go_ret
      exact ⟨ret_bool (by simp; omega), rfl⟩
    · go_enter Tryd.func34, Tryd.ntmps34
      go_wp2
      go_ret
      exact ⟨ret_bool (by simp; omega), rfl⟩
  · go_enter Tryd.func34, Tryd.ntmps34
    go_wp2
    go_ret
    exact ⟨ret_bool (by simp; omega), rfl⟩
/-- What the reference asks of each byte, and of the first one. -/
def mayAt (c : Nat) : Bool := letN c || digN c
theorem ok_may {s : ByteArray} {k : Nat} (h : 0 < k) : okAt s k = mayAt (byteAt s k) := by simp [okAt, mayAt, h]
theorem may_good {c : Nat} (h : mayAt c = true) : goodN c 1 := by simp [mayAt, letN, digN] at h; unfold goodN; omega
theorem may_bad {c : Nat} (h : mayAt c = false) : badN c 1 := by simp [mayAt, letN, digN] at h; unfold badN; omega
theorem ok_of_first {s : ByteArray} {k : Nat} (h0 : okAt s 0 = mayAt (byteAt s 0)) : okAt s k = mayAt (byteAt s k) := by
  rcases Nat.eq_zero_or_pos k with rfl | h
  · exact h0
  · exact ok_may h
theorem first_ok {s : ByteArray} (h : digN (byteAt s 0) = false) : okAt s 0 = mayAt (byteAt s 0) := by simp [okAt, mayAt, h]
theorem first_bad {s : ByteArray} (h : digN (byteAt s 0) = true) : okAt s 0 = false := by simp [okAt, letN, digN] at h ⊢; omega
theorem get_byte {s : ByteArray} {k : Nat} (h : k < s.size) : ((s[k]'h).toNat : Int) = (byteAt s k : Int) := by rw [byteAt_lt h]

set_option maxHeartbeats 1000000 in
theorem may_some (s : ByteArray) (w : World) (h1 : 1 ≤ s.size) (h2 : s.size ≤ 12) (hd : digN (byteAt s 0) = false) :
    Calls Tryd.prog 29 #[.string s] w fun e w' => e = .returned (.bool (textB s)) ∧ w' = w := by
  have HF : Hid (∀ k, okAt s k = mayAt (byteAt s k)) := fun k => ok_of_first (first_ok hd)
  have HI : Hid ((decide ((1 : Int) ≤ (s.size : Int)) && decide ((s.size : Int) ≤ 12)) = true) := by show _ = _; simp; omega
  have hp0 : 0 < s.size := h1
  have HD : Hid ((decide ((48 : Int) ≤ ((s[0]'hp0).toNat : Int)) && decide (((s[0]'hp0).toNat : Int) ≤ 57)) = false) := by show _ = _; rw [get_byte hp0, ← hd]; simp only [digN]; congr 1 <;> simp <;> omega
  go_enter Tryd.func29, Tryd.ntmps29
  go_wp2_with (first | (go_at_call 28; (with_reducible refine (inR_any _ _ _ _ _ HI.out).mono ?_); rintro e w' ⟨rfl, rfl⟩) | (go_at_call 34; (refine (digitR_any _ _ _ HD.out).mono ?_); rintro e w' ⟨rfl, rfl⟩))
  go_loop [3] (fun i => ∃ k : Nat, k ≤ s.size ∧ i = .int .i64 k ∧ Hid (okTo s k = true)) (fun i => s.size - (intOf i).toNat)
  case atStart => exact ⟨0, Nat.zero_le _, rfl, rfl⟩
  case round =>
    obtain ⟨k, hk, rfl, hok⟩ := hrel
    by_cases hp : k < s.size
    · have hf := HF.out k
      rcases bool_cases (mayAt (byteAt s k)) with ho | ho
      · have HO : Hid (okTo s (k + 1) = true) := by show _ = _; rw [okTo_succ, hok.out, hf, ho]; rfl
        have hg := may_good ho
        clear hok hf ho
        rw [← get_byte hp] at hg
        rcases hg with ⟨g1, g2, g3⟩ | g1 | ⟨g1, g2⟩
        · have g5 : ¬ (97 : Int) ≤ ((s[k]'hp).toNat : Int) := by omega
          have g6 : (((s[k]'hp).toNat : Int) != 95) = true := bne_iff_ne.2 (by omega)
          have HD : Hid ((decide ((48 : Int) ≤ ((s[k]'hp).toNat : Int)) && decide (((s[k]'hp).toNat : Int) ≤ 57)) = true) := by show _ = _; simp; omega
          clear g1 g2
          go_wp2_with (go_at_call 34; (refine (digitR_any _ _ _ HD.out).mono ?_); rintro e w' ⟨rfl, rfl⟩)
          go_round
          case rel => exact ⟨k + 1, by omega, by go_num, HO⟩
          case measure => simp [intOf]; omega
        · have g5 : ¬ (97 : Int) ≤ ((s[k]'hp).toNat : Int) := by omega
          have g6 : (((s[k]'hp).toNat : Int) != 95) = false := by rw [g1]; rfl
          clear g1
          go_wp2
          go_round
          case rel => exact ⟨k + 1, by omega, by go_num, HO⟩
          case measure => simp [intOf]; omega
        · go_wp2
          go_round
          case rel => exact ⟨k + 1, by omega, by go_num, HO⟩
          case measure => simp [intOf]; omega
      · have HQ : Hid (textB s = false) := textB_false (okTo_false hp (hf.trans ho))
        have hg := may_bad ho
        clear hok hf ho
        rw [← get_byte hp] at hg
        have g6 : (((s[k]'hp).toNat : Int) != 95) = true := bne_iff_ne.2 (by unfold badN at hg; omega)
        have HD : Hid ((decide ((48 : Int) ≤ ((s[k]'hp).toNat : Int)) && decide (((s[k]'hp).toNat : Int) ≤ 57)) = false) := by show _ = _; unfold badN at hg; simp; omega
        have h7 : ¬ (97 : Int) ≤ ((s[k]'hp).toNat : Int) ∨ ((97 : Int) ≤ ((s[k]'hp).toNat : Int) ∧ ¬ ((s[k]'hp).toNat : Int) ≤ 122) := by unfold badN at hg; omega
        clear hg
        rcases h7 with g5 | ⟨g5, g7⟩
        · go_wp2_with (go_at_call 34; (refine (digitR_any _ _ _ HD.out).mono ?_); rintro e w' ⟨rfl, rfl⟩)
          go_ret
          exact ⟨ret_bool HQ.out.symm, rfl⟩
        · go_wp2_with (go_at_call 34; (refine (digitR_any _ _ _ HD.out).mono ?_); rintro e w' ⟨rfl, rfl⟩)
          go_ret
          exact ⟨ret_bool HQ.out.symm, rfl⟩
    · have hke : k = s.size := by omega
      have HQ : Hid (textB s = true) := textB_true h1 h2 (by rw [← hke]; exact hok.out)
      clear hke
      go_wp2
      go_ret
      exact ⟨ret_bool HQ.out.symm, rfl⟩
theorem may_any (s : ByteArray) (w : World) (r : Bool) (hr : textB s = r) :
    Calls Tryd.prog 29 #[.string s] w fun e w' => e = .returned (.bool r) ∧ w' = w := by
  subst hr
  by_cases h1 : 1 ≤ s.size ∧ s.size ≤ 12
  · rcases bool_cases (digN (byteAt s 0)) with hd | hd
    · have HI : Hid ((decide ((1 : Int) ≤ (s.size : Int)) && decide ((s.size : Int) ≤ 12)) = true) := by show _ = _; simp; omega
      have HQ : Hid (textB s = false) := textB_false (okTo_false h1.1 (first_bad hd))
      have hp0 : 0 < s.size := h1.1
      have HD : Hid ((decide ((48 : Int) ≤ ((s[0]'hp0).toNat : Int)) && decide (((s[0]'hp0).toNat : Int) ≤ 57)) = true) := by show _ = _; rw [get_byte hp0, ← hd]; simp only [digN]; congr 1 <;> simp <;> omega
      go_enter Tryd.func29, Tryd.ntmps29
      go_wp2_with (first | (go_at_call 28; (with_reducible refine (inR_any _ _ _ _ _ HI.out).mono ?_); rintro e w' ⟨rfl, rfl⟩) | (go_at_call 34; (refine (digitR_any _ _ _ HD.out).mono ?_); rintro e w' ⟨rfl, rfl⟩))
      go_ret
      exact ⟨ret_bool HQ.out.symm, rfl⟩
    · exact may_some s w h1.1 h1.2 hd
  · have HI : Hid ((decide ((1 : Int) ≤ (s.size : Int)) && decide ((s.size : Int) ≤ 12)) = false) := by show _ = _; simp; omega
    have HQ : Hid (textB s = false) := by show _ = _; simp [textB]; omega
    go_enter Tryd.func29, Tryd.ntmps29
    go_wp2_with (first | (go_at_call 28; (with_reducible refine (inR_any _ _ _ _ _ HI.out).mono ?_); rintro e w' ⟨rfl, rfl⟩))
    go_ret
    exact ⟨ret_bool HQ.out.symm, rfl⟩
end Go.Proofs.YtljpbkkofalinaaDoor.Wt
