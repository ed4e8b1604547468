/- What the reference's Digit and Number answer, at every text. -/
import Derived.Test.YthaefajpdncoeaaDoorRows
import Derived.Test.YthaefajpdncoeaaDoorPlain
import Derived.Test.YthaefajpdncoeaaDoorPlainS
import Derived.ProofKit
import Derived.OpenShut
import Derived.WalkLawsBesides
import Derived.WalkSpells
import Derived.WalkKit
namespace Go.Proofs.YthaefajpdncoeaaDoor.Wt
open Go.ChangeShapes Go.WideShapes Go.ChangeAt Go.RowKit
open Go.Proofs.YthaefajpdncoeaaDoor.Pl
set_option linter.unusedVariables false
theorem numV_take_bd (s : ByteArray) (k : Nat) (h : k ≤ 12) (hd : (bl s).all digB = true) : 0 ≤ numV ((bl s).take k) ∧ numV ((bl s).take k) < 1000000000000 := by
  have h1 := numV_bd _ (all_take (bl s) k hd)
  have h2 := pow12 ((bl s).take k).length (by rw [List.length_take]; omega)
  omega

theorem numB_all {l : List UInt8} (h : numB l = true) : l.all digB = true := by
  unfold numB at h
  rw [Bool.and_eq_true] at h
  exact h.2

theorem digit_any (c : UInt8) (r : Bool) (w : World) (hr : digB c = r) :
    Calls Tryd.prog 45 #[.int .u8 (c.toNat : Int)] w fun e w' => e = .returned (.bool r) ∧ w = w' := by
  cases r
  · have h := digB_false.1 hr
    clear hr
    by_cases h1 : 48 ≤ (c.toNat : Int)
    · have h2 : ¬ (c.toNat : Int) ≤ 57 := by omega
      clear h
      go_enter Tryd.func45, Tryd.ntmps45
      go_wp2
      go_ret
      exact ⟨ret_bool (by first | rfl | (simp; done) | (simp; omega)), rfl⟩
    · clear h
      go_enter Tryd.func45, Tryd.ntmps45
      go_wp2
      go_ret
      exact ⟨ret_bool (by first | rfl | (simp; done) | (simp; omega)), rfl⟩
  · obtain ⟨h1, h2⟩ := digB_true.1 hr
    clear hr
    go_enter Tryd.func45, Tryd.ntmps45
    go_wp2
    go_ret
    exact ⟨ret_bool (by first | rfl | (simp; done) | (simp; omega)), rfl⟩

/-- The round of the reference's loop over digits, where the text has no nought ahead. -/
def Lead (s : ByteArray) : Prop := 0 < s.size ∧ s.size ≤ 12 ∧ numB (bl s) = (bl s).all digB

theorem numR_all {s : ByteArray} {most : Int} (h : Lead s) (hd : (bl s).all digB = true) : numR s most = if most < numV (bl s) then most + 1 else numV (bl s) := by
  unfold Lead at h
  unfold numR
  rw [if_neg (by omega), if_neg (by rw [h.2.2, hd]; simp)]
theorem numR_bad {s : ByteArray} {most : Int} (h : Lead s) (hd : (bl s).all digB = false) : numR s most = -2 := by
  unfold Lead at h
  unfold numR
  rw [if_neg (by omega), if_pos (by rw [h.2.2, hd])]

set_option maxHeartbeats 2000000 in
theorem number_any (s : ByteArray) (most : Int) (w : World) (hs : s.size ≤ maxLen) (hm1 : 0 ≤ most) (hm2 : most ≤ 2000000000) (r : Int) (hr : numR s most = r) :
    Calls Tryd.prog 27 #[.string s, .int .i64 most] w fun e w' => e = .returned (.int .i64 r) ∧ w = w' := by
  subst hr
  unfold maxLen at hs
  by_cases hl : 12 < s.size
  · have HQ : Hid (numR s most = -1) := by show _ = _; unfold numR; rw [if_pos hl]
    have hl' : (12 : Int) < (s.size : Int) := by omega
    go_enter Tryd.func27, Tryd.ntmps27
    go_wp2
    go_ret
    exact ⟨ret_int HQ.out.symm, rfl⟩
  · have hl' : ¬ (12 : Int) < (s.size : Int) := by omega
    by_cases h0 : s.size = 0
    · have HQ : Hid (numR s most = -2) := by show _ = _; unfold numR; rw [if_neg hl, if_pos (numB_empty s h0)]
      have h0' : ((s.size : Int) == 0) = true := beq_iff_eq.2 (by omega)
      clear h0
      go_enter Tryd.func27, Tryd.ntmps27
      go_wp2
      go_ret
      exact ⟨ret_int HQ.out.symm, rfl⟩
    · have hp : 0 < s.size := by omega
      have h0' : ((s.size : Int) == 0) = false := beq_eq_false_iff_ne.2 (by omega)
      have hN := numB_bl s hp
      clear h0
      by_cases hno : ((s[0].toNat : Int) == 48) = true ∧ 1 < s.size
      · obtain ⟨h48, h1⟩ := hno
        have HQ : Hid (numR s most = -2) := by show _ = _; unfold numR; rw [if_neg hl, if_pos (by rw [hN true (by rw [h48]; simpa using h1)]; rfl)]
        have h1' : (1 : Int) < (s.size : Int) := by omega
        clear hN
        go_enter Tryd.func27, Tryd.ntmps27
        go_wp2
        go_ret
        exact ⟨ret_int HQ.out.symm, rfl⟩
      · have HL : Hid (Lead s) := by
          refine ⟨hp, by omega, ?_⟩
          rw [hN false (by
            rcases bool_cases ((s[0].toNat : Int) == 48) with h | h
            · rw [h]; simp; have : ¬ 1 < s.size := fun g => hno ⟨h, g⟩
              omega
            · rw [h]; rfl)]; rfl
        have key : ((s[0].toNat : Int) == 48) = false ∨ (((s[0].toNat : Int) == 48) = true ∧ ¬ (1 : Int) < (s.size : Int)) := by
          rcases bool_cases ((s[0].toNat : Int) == 48) with h | h
          · exact .inr ⟨h, fun g => hno ⟨h, by omega⟩⟩
          · exact .inl h
        clear hN hno
        rcases key with h48 | ⟨h48, h1⟩
        all_goals
          go_enter Tryd.func27, Tryd.ntmps27
          go_wp2
          go_loop [5, 6] (fun n i => ∃ k : Nat, k ≤ s.size ∧ i = .int .i64 k ∧ n = .int .i64 (numV ((bl s).take k)) ∧ ((bl s).take k).all digB = true) (fun _ i => s.size - (intOf i).toNat)
          case atStart => exact ⟨0, Nat.zero_le _, rfl, rfl, rfl⟩
          case round =>
            obtain ⟨k, hk, rfl, rfl, hd⟩ := hrel
            have HD : Hid (((bl s).take k).all digB = true) := hd
            clear hd
            by_cases hlt : k < s.size
            · have HS : Hid (((bl s).take (k + 1)).all digB = (((bl s).take k).all digB && digB s[k])) := by show _ = _; rw [bl_take s k hlt, all_snoc]
              have HV : Hid (numV ((bl s).take (k + 1)) = 10 * numV ((bl s).take k) + ((s[k].toNat : Int) - 48)) := by show _ = _; rw [bl_take s k hlt, numV_snoc]
              have HF : Hid (digB s[k] = false → (bl s).all digB = false) := fun h => all_false_of _ k _ (bl_get s k hlt) h
              rcases bool_cases (digB s[k]) with hc | hc
              · obtain ⟨c1, c2⟩ := digB_true.1 hc
                have HC : Hid (digB s[k] = true) := hc
                have hbd := numV_bd _ HD.out
                have hp12 := pow12 ((bl s).take k).length (by rw [List.length_take]; omega)
                obtain ⟨b1, b2⟩ : 0 ≤ numV ((bl s).take k) ∧ numV ((bl s).take k) < 1000000000000 := by omega
                clear hc hbd hp12
                generalize numV ((bl s).take k) = m at HV b1 b2
                go_wp2_with (first | (go_at_call 45; refine (digit_any _ true _ HC.out).mono ?_; rintro e w' ⟨rfl, rfl⟩))
                go_round
                case rel => exact ⟨k + 1, by omega, by go_num, by rw [HV.out], by rw [HS.out, HD.out, HC.out]; rfl⟩
                case measure => simp [intOf]; omega
              · have HC : Hid (digB s[k] = false) := hc
                have HQ : Hid (numR s most = -2) := numR_bad HL.out (HF.out hc)
                clear hc
                go_wp2_with (first | (go_at_call 45; refine (digit_any _ false _ HC.out).mono ?_; rintro e w' ⟨rfl, rfl⟩))
                go_ret
                exact ⟨ret_int HQ.out.symm, rfl⟩
            · have hle : (bl s).take k = bl s := List.take_of_length_le (by rw [bl_length]; omega)
              have hdd : (bl s).all digB = true := by have := HD.out; rw [hle] at this; exact this
              have HQ0 : Hid (numR s most = if most < numV (bl s) then most + 1 else numV (bl s)) := numR_all HL.out hdd
              rw [hle]
              clear hle hdd HD
              generalize numV (bl s) = v at HQ0
              by_cases hv : most < v
              · have HQ : Hid (numR s most = most + 1) := by show _ = _; rw [HQ0.out, if_pos hv]
                go_wp2
                go_ret
                exact ⟨ret_int HQ.out.symm, rfl⟩
              · have HQ : Hid (numR s most = v) := by show _ = _; rw [HQ0.out, if_neg hv]
                go_wp2
                go_ret
                exact ⟨ret_int HQ.out.symm, rfl⟩

end Go.Proofs.YthaefajpdncoeaaDoor.Wt
