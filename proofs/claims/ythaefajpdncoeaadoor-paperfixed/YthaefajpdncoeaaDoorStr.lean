/- What the program's isNumber, numberOf and Read answer, at every text. -/
import Derived.Test.YthaefajpdncoeaaDoorRows
import Derived.Test.YthaefajpdncoeaaDoorPlain
import Derived.Test.YthaefajpdncoeaaDoorPlainS
import Derived.ProofKit
import Derived.OpenShut
import Derived.WalkLawsBesides
import Derived.WalkSpells
namespace Go.Proofs.YthaefajpdncoeaaDoor.Wt
open Go.ChangeShapes Go.WideShapes Go.ChangeAt Go.RowKit
open Go.Proofs.YthaefajpdncoeaaDoor.Pl
set_option linter.unusedVariables false

set_option maxHeartbeats 1000000 in
theorem isNumber_any (s : ByteArray) (w : World) (hs : s.size ≤ maxLen) (r : Bool) (hr : numB (bl s) = r) :
    Calls Tryd.prog 70 #[.string s] w fun e w' => e = .returned (.bool r) ∧ w = w' := by
  subst hr
  unfold maxLen at hs
  by_cases h0 : s.size = 0
  · have he : s.toList.isEmpty = true := by rw [empty_toList]; simpa using h0
    have HN : Hid (numB (bl s) = false) := numB_empty s h0
    clear h0
    go_enter Tryd.func70, Tryd.ntmps70
    go_wp2
    go_ret
    exact ⟨ret_bool HN.out.symm, rfl⟩
  · have hp : 0 < s.size := by omega
    have he : s.toList.isEmpty = false := by rw [empty_toList]; simpa using h0
    have hN := numB_bl s hp
    clear h0
    rcases (show (((s[0].toNat : Int) == 48) = true ∧ 1 < s.size) ∨ (((s[0].toNat : Int) == 48) = false) ∨ (((s[0].toNat : Int) == 48) = true ∧ ¬ 1 < s.size) from by
      rcases bool_cases ((s[0].toNat : Int) == 48) with h | h
      · by_cases g : 1 < s.size
        · exact .inl ⟨h, g⟩
        · exact .inr (.inr ⟨h, g⟩)
      · exact .inr (.inl h)) with ⟨h48, h1⟩ | h48 | ⟨h48, h1⟩
    · have HN : Hid (numB (bl s) = false) := by show _ = _; rw [hN true (by rw [h48]; simpa using h1)]; rfl
      have h1' : (1 : Int) < (s.size : Int) := by omega
      clear hN
      go_enter Tryd.func70, Tryd.ntmps70
      go_wp2
      go_ret
      exact ⟨ret_bool HN.out.symm, rfl⟩
    · have HN : Hid (numB (bl s) = (bl s).all digB) := by show _ = _; rw [hN false (by rw [h48]; rfl)]; rfl
      clear hN
      go_enter Tryd.func70, Tryd.ntmps70
      go_wp2
      go_loop [18] (fun i => ∃ k : Nat, k ≤ s.size ∧ i = .int .i64 k ∧ ((bl s).take k).all digB = true) (fun i => s.size - (intOf i).toNat)
      case atStart => exact ⟨0, Nat.zero_le _, rfl, rfl⟩
      case round =>
        obtain ⟨k, hk, rfl, hd⟩ := hrel
        have HD : Hid (((bl s).take k).all digB = true) := hd
        clear hd
        by_cases hlt : k < s.size
        · have HS : Hid (((bl s).take (k + 1)).all digB = (((bl s).take k).all digB && digB s[k])) := by show _ = _; rw [bl_take s k hlt, all_snoc]
          have HF : Hid (digB s[k] = false → (bl s).all digB = false) := fun h => all_false_of _ k _ (bl_get s k hlt) h
          by_cases c1 : (s[k].toNat : Int) < 48
          · go_wp2
            go_ret
            exact ⟨ret_bool (by rw [HN.out, HF.out (digB_false.2 (by omega))]), rfl⟩
          · by_cases c2 : 57 < (s[k].toNat : Int)
            · go_wp2
              go_ret
              exact ⟨ret_bool (by rw [HN.out, HF.out (digB_false.2 (by omega))]), rfl⟩
            · go_wp2
              go_round
              case rel => exact ⟨k + 1, by omega, by go_num, by rw [HS.out, HD.out, digB_true.2 (by omega)]; rfl⟩
              case measure => simp [intOf]; omega
        · have HL : Hid ((bl s).all digB = true) := by
            show _ = _
            have h := HD.out
            rw [List.take_of_length_le (by rw [bl_length]; omega)] at h
            exact h
          go_wp2
          go_ret
          exact ⟨ret_bool (by rw [HN.out, HL.out]), rfl⟩
    · have HN : Hid (numB (bl s) = (bl s).all digB) := by show _ = _; rw [hN false (by rw [h48]; simpa using h1)]; rfl
      have h1' : ¬ (1 : Int) < (s.size : Int) := by omega
      clear hN
      go_enter Tryd.func70, Tryd.ntmps70
      go_wp2
      go_loop [18] (fun i => ∃ k : Nat, k ≤ s.size ∧ i = .int .i64 k ∧ ((bl s).take k).all digB = true) (fun i => s.size - (intOf i).toNat)
      case atStart => exact ⟨0, Nat.zero_le _, rfl, rfl⟩
      case round =>
        obtain ⟨k, hk, rfl, hd⟩ := hrel
        have HD : Hid (((bl s).take k).all digB = true) := hd
        clear hd
        by_cases hlt : k < s.size
        · have HS : Hid (((bl s).take (k + 1)).all digB = (((bl s).take k).all digB && digB s[k])) := by show _ = _; rw [bl_take s k hlt, all_snoc]
          have HF : Hid (digB s[k] = false → (bl s).all digB = false) := fun h => all_false_of _ k _ (bl_get s k hlt) h
          by_cases c1 : (s[k].toNat : Int) < 48
          · go_wp2
            go_ret
            exact ⟨ret_bool (by rw [HN.out, HF.out (digB_false.2 (by omega))]), rfl⟩
          · by_cases c2 : 57 < (s[k].toNat : Int)
            · go_wp2
              go_ret
              exact ⟨ret_bool (by rw [HN.out, HF.out (digB_false.2 (by omega))]), rfl⟩
            · go_wp2
              go_round
              case rel => exact ⟨k + 1, by omega, by go_num, by rw [HS.out, HD.out, digB_true.2 (by omega)]; rfl⟩
              case measure => simp [intOf]; omega
        · have HL : Hid ((bl s).all digB = true) := by
            show _ = _
            have h := HD.out
            rw [List.take_of_length_le (by rw [bl_length]; omega)] at h
            exact h
          go_wp2
          go_ret
          exact ⟨ret_bool (by rw [HN.out, HL.out]), rfl⟩

theorem numV_take_bd (s : ByteArray) (k : Nat) (h : k ≤ 12) (hd : (bl s).all digB = true) : 0 ≤ numV ((bl s).take k) ∧ numV ((bl s).take k) < 1000000000000 := by
  have h1 := numV_bd _ (all_take (bl s) k hd)
  have h2 := pow12 ((bl s).take k).length (by rw [List.length_take]; omega)
  omega

theorem numberOf_any (s : ByteArray) (w : World) (hs : s.size ≤ 12) (hd : (bl s).all digB = true) (r : Int) (hr : numV (bl s) = r) :
    Calls Tryd.prog 71 #[.string s] w fun e w' => e = .returned (.int .i64 r) ∧ w = w' := by
  subst hr
  have HD : Hid ((bl s).all digB = true) := hd
  clear hd
  go_enter Tryd.func71, Tryd.ntmps71
  go_wp2
  go_loop [3, 7] (fun n i => ∃ k : Nat, k ≤ s.size ∧ i = .int .i64 k ∧ n = .int .i64 (numV ((bl s).take k))) (fun _ i => s.size - (intOf i).toNat)
  case atStart => exact ⟨0, Nat.zero_le _, rfl, rfl⟩
  case round =>
    obtain ⟨k, hk, rfl, rfl⟩ := hrel
    by_cases hlt : k < s.size
    · have HS : Hid (numV ((bl s).take (k + 1)) = 10 * numV ((bl s).take k) + ((s[k].toNat : Int) - 48)) := by show _ = _; rw [bl_take s k hlt, numV_snoc]
      obtain ⟨b1, b2⟩ := numV_take_bd s k (by omega) HD.out
      have hc : digB s[k] = true := by
        have h := HD.out
        rw [List.all_eq_true] at h
        exact h _ (List.mem_of_getElem? (bl_get s k hlt))
      obtain ⟨c1, c2⟩ := digB_true.1 hc
      clear hc
      generalize numV ((bl s).take k) = m at HS b1 b2
      go_wp2
      go_round
      case rel => exact ⟨k + 1, by omega, by go_num, by rw [HS.out]; exact congrArg _ (by omega)⟩
      case measure => simp [intOf]; omega
    · have HL : Hid ((bl s).take k = bl s) := List.take_of_length_le (by rw [bl_length]; omega)
      rw [HL.out]
      go_wp2
      go_ret
      exact ⟨rfl, rfl⟩

theorem numB_all {l : List UInt8} (h : numB l = true) : l.all digB = true := by
  unfold numB at h
  rw [Bool.and_eq_true] at h
  exact h.2

set_option maxHeartbeats 1000000 in
theorem read_any (s : ByteArray) (w : World) (hs : s.size ≤ maxLen) :
    Calls Tryd.prog 58 #[.string s] w fun e w' => e = .returned (.tuple #[.int .i64 (readR s).1, .int .i64 (readR s).2]) ∧ w = w' := by
  have HZ : Hid (s.size ≤ maxLen) := hs
  unfold maxLen at hs
  have HR : Hid (readR s = if (s.toList == [105, 110, 102]) = true then (1000000001, 0) else if 12 < s.size then (0, 1) else if numB (bl s) = false then (0, 3) else if 1000000000 < numV (bl s) then (0, 4) else (numV (bl s), 0)) := rfl
  rcases bool_cases (s.toList == [105, 110, 102]) with hi | hi
  · have HQ : Hid (readR s = (1000000001, 0)) := by show _ = _; rw [HR.out, if_pos hi]
    go_enter Tryd.func58, Tryd.ntmps58
    go_wp2
    go_ret2
    exact ⟨ret_pair HQ.out, rfl⟩
  · have HI : Hid ((s.toList == [105, 110, 102]) ≠ true) := by show _ ≠ _; rw [hi]; simp
    by_cases hl : 12 < s.size
    · have HQ : Hid (readR s = (0, 1)) := by show _ = _; rw [HR.out, if_neg HI.out, if_pos hl]
      have hl' : (12 : Int) < (s.size : Int) := by omega
      go_enter Tryd.func58, Tryd.ntmps58
      go_wp2
      go_ret2
      exact ⟨ret_pair HQ.out, rfl⟩
    · have hl' : ¬ (12 : Int) < (s.size : Int) := by omega
      rcases bool_cases (numB (bl s)) with hn | hn
      · have HN : Hid (numB (bl s) = true) := hn
        have HQ0 : Hid (readR s = if 1000000000 < numV (bl s) then (0, 4) else (numV (bl s), 0)) := by show _ = _; rw [HR.out, if_neg HI.out, if_neg hl, if_neg (by rw [hn]; simp)]
        clear hn
        generalize hv : numV (bl s) = v at HQ0
        have HV : Hid (numV (bl s) = v) := hv
        clear hv
        by_cases hm : 1000000000 < v
        · have HQ : Hid (readR s = (0, 4)) := by show _ = _; rw [HQ0.out, if_pos hm]
          go_enter Tryd.func58, Tryd.ntmps58
          go_wp2_with (first | (go_at_call 70; refine (isNumber_any _ _ HZ.out true HN.out).mono ?_; rintro e w' ⟨rfl, rfl⟩) | (go_at_call 71; refine (numberOf_any _ _ (by omega) (numB_all HN.out) v HV.out).mono ?_; rintro e w' ⟨rfl, rfl⟩))
          go_ret2
          exact ⟨ret_pair HQ.out, rfl⟩
        · have HQ : Hid (readR s = (v, 0)) := by show _ = _; rw [HQ0.out, if_neg hm]
          go_enter Tryd.func58, Tryd.ntmps58
          go_wp2_with (first | (go_at_call 70; refine (isNumber_any _ _ HZ.out true HN.out).mono ?_; rintro e w' ⟨rfl, rfl⟩) | (go_at_call 71; refine (numberOf_any _ _ (by omega) (numB_all HN.out) v HV.out).mono ?_; rintro e w' ⟨rfl, rfl⟩))
          go_ret2
          exact ⟨ret_pair HQ.out, rfl⟩
      · have HN : Hid (numB (bl s) = false) := hn
        have HQ : Hid (readR s = (0, 3)) := by show _ = _; rw [HR.out, if_neg HI.out, if_neg hl, if_pos hn]
        clear hn
        go_enter Tryd.func58, Tryd.ntmps58
        go_wp2_with (first | (go_at_call 70; refine (isNumber_any _ _ HZ.out false HN.out).mono ?_; rintro e w' ⟨rfl, rfl⟩))
        go_ret2
        exact ⟨ret_pair HQ.out, rfl⟩
end Go.Proofs.YthaefajpdncoeaaDoor.Wt
