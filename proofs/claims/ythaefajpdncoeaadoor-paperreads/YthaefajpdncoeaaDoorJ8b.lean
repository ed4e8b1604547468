/- The table of powers of ten that the standard library reads, as its text lays it. What areWeights of the program answers, at every list of numbers. A weight as a text. What the program's Show answers, at every number (where the table of powers of ten that the standard library reads is as its text lays it). What the program's isNumber, numberOf and Read answer, at every text. strings.Cut at one byte. -/
import Derived.Test.YthaefajpdncoeaaDoorRows
import Derived.WalkKit
import Derived.Below
import Derived.ProofKit
import Derived.OpenShut
import Derived.Lib.ItoaNum
import Derived.Lib.LaidTab
import Derived.WalkSpells
import Derived.WalkLawsBesides
import Derived.Sort.Grow
import Derived.Test.YthaefajpdncoeaaDoorPlain
import Derived.Test.YthaefajpdncoeaaDoorShelf
import Derived.Test.YthaefajpdncoeaaDoorPlainS
import Derived.Test.YthaefajpdncoeaaDoorPlainC
import Derived.Handy
import Derived.BigQuiet
import Derived.Deep.QuietTactic
import Derived.WalkSmall
namespace Go.Proofs.YthaefajpdncoeaaDoor.Wt
open Go.ChangeShapes Go.WideShapes Go.ChangeAt Go.RowKit
set_option linter.unusedVariables false
def Tab (w : World) : Prop := Lib.TabIs Tryd.prog w "internal/strconv.uint64pow10" .u64 Lib.pow10Tab
theorem Tab.later {w w' : World} (h : Tab w) (hb : Below w.heap.size w w') : Tab w' := by
  unfold Tab Lib.TabIs at *
  unfold World.var? at h ⊢
  cases hg : Tryd.prog.globalNamed "internal/strconv.uint64pow10" with
  | none => rw [hg] at h; simp at h
  | some g =>
    simp only [hg, Option.bind_some] at h ⊢
    have hlt : g < w.heap.size := by
      rcases Nat.lt_or_ge g w.heap.size with h' | h'
      · exact h'
      · rw [Array.getElem?_eq_none h'] at h; simp at h
    rw [hb.block g hlt]
    exact h
theorem below_grow (w : World) (k : Nat) (os : Array Obj) : Below w.heap.size w (Sort.grow (w.drewN k) os) :=
  ⟨rfl, rfl, rfl, by show w.heap.size ≤ (w.heap ++ os).size; simp, fun i hi => by show (w.heap ++ os)[i]? = _; rw [Array.getElem?_append, if_pos hi]⟩

end Go.Proofs.YthaefajpdncoeaaDoor.Wt
namespace Go.Proofs.YthaefajpdncoeaaDoor.Wt
open Go.ChangeShapes Go.WideShapes Go.ChangeAt Go.RowKit
open Go.Proofs.YthaefajpdncoeaaDoor.Pl
set_option linter.unusedVariables false

theorem are_some (b off len cap : Nat) (zs : List Int) (w : World) (hz : zs.length = len) (hm : len ≤ maxLen)
    (hc : ∀ i, i < len → w.cell? ⟨b, off + i, none⟩ = some (.int .i64 (zs[i]?.getD 0))) :
    Calls Tryd.prog 54 #[.slice (some ⟨b, off, none⟩) len cap] w fun e w' => e = .returned (.bool (allW zs)) ∧ w' = w := by
  unfold maxLen at hm
  go_enter Tryd.func54, Tryd.ntmps54
  go_wp2
  go_loop [7] (fun i => ∃ k : Nat, k ≤ len ∧ i = .int .i64 k ∧ allW (zs.take k) = true) (fun i => len - (intOf i).toNat)
  case atStart => exact ⟨0, Nat.zero_le _, rfl, rfl⟩
  case round =>
    obtain ⟨k, hk, rfl, hall⟩ := hrel
    by_cases hlt : k < len
    · have g := hc k hlt
      have hs := allW_snoc zs k (by omega)
      have hf := allW_false_of zs k (by omega)
      rw [hall] at hs
      generalize zs[k]?.getD 0 = x at g hs hf
      have HS : Hid (allW (zs.take (k + 1)) = (true && wtB x)) := hs
      have HF : Hid (wtB x = false → allW zs = false) := hf
      clear hall hc hs hf
      by_cases hx : x = 1000000001
      · subst hx
        go_wp2
        go_round
        case rel => exact ⟨k + 1, by omega, by go_num, by rw [HS.out]; rfl⟩
        case measure => simp [intOf]; omega
      · have hne : (x != 1000000001) = true := by simpa using hx
        by_cases h0 : x < 0
        · go_wp2
          go_ret
          exact ⟨ret_bool (HF.out (wtB_false.2 (by omega))).symm, rfl⟩
        · by_cases h1 : 1000000000 < x
          · go_wp2
            go_ret
            exact ⟨ret_bool (HF.out (wtB_false.2 (by omega))).symm, rfl⟩
          · go_wp2
            go_round
            case rel => exact ⟨k + 1, by omega, by go_num, by rw [HS.out, wtB_true.2 (by omega)]; rfl⟩
            case measure => simp [intOf]; omega
    · have hkl : k = len := by omega
      rw [hkl, ← hz, List.take_length] at hall
      have HA : Hid (allW zs = true) := hall
      clear hall hkl
      go_wp2
      go_ret
      exact ⟨ret_bool HA.out.symm, rfl⟩

theorem one_cells (a : Int) (t : TypeId) (w : World) : ∀ i, i < 1 → (w.alloc (.cells #[.int .i64 a] t)).cell? ⟨w.heap.size, 0 + i, none⟩ = some (.int .i64 ([a][i]?.getD 0)) := by
  intro i hi
  match i, hi with
  | 0, _ => simp
theorem are_one (a : Int) (r : Bool) (t : TypeId) (w : World) (n : Nat) (hn : n = w.heap.size) (h : wtB a = r) :
    Calls Tryd.prog 54 #[.slice (some ⟨n, 0, none⟩) 1 1] (w.alloc (.cells #[.int .i64 a] t)) fun e w' => e = .returned (.bool r) ∧ (w.alloc (.cells #[.int .i64 a] t)) = w' := by
  subst hn
  refine (are_some w.heap.size 0 1 1 [a] _ rfl (by decide) (one_cells a t w)).mono ?_
  rintro e w' ⟨rfl, rfl⟩
  exact ⟨ret_bool (by rw [← h]; simp [allW]), rfl⟩
end Go.Proofs.YthaefajpdncoeaaDoor.Wt
namespace Go.Proofs.YthaefajpdncoeaaDoor.Wt
open Go.ChangeShapes Go.WideShapes Go.ChangeAt Go.RowKit
open Go.Proofs.YthaefajpdncoeaaDoor.Pl
set_option linter.unusedVariables false
def showR (n : Int) : ByteArray × Int := if wtB n = true then ((if n = 1000000001 then ⟨#[105, 110, 102]⟩ else ⟨(Lib.itoa n).toArray⟩), 0) else (⟨#[]⟩, 2)
theorem showR_bad {n : Int} (h : wtB n = false) : showR n = (⟨#[]⟩, 2) := by unfold showR; rw [if_neg (by rw [h]; simp)]
theorem showR_inf : showR 1000000001 = (⟨#[105, 110, 102]⟩, 0) := by unfold showR; rw [if_pos (by decide), if_pos rfl]
theorem showR_num {n : Int} (h : wtB n = true) (g : ¬ n = 1000000001) : showR n = (⟨(Lib.itoa n).toArray⟩, 0) := by unfold showR; rw [if_pos h, if_neg g]
theorem ret_sp {k : IntKind} {s : ByteArray} {a : Int} {p : ByteArray × Int} (h : p = (s, a)) : Ending.returned (.tuple #[.string s, .int k a]) = .returned (.tuple #[.string p.1, .int k p.2]) := by rw [h]
end Go.Proofs.YthaefajpdncoeaaDoor.Wt
namespace Go.Proofs.YthaefajpdncoeaaDoor.Wt
open Go.ChangeShapes Go.WideShapes Go.ChangeAt Go.RowKit
open Go.Proofs.YthaefajpdncoeaaDoor.Pl
set_option linter.unusedVariables false

theorem show_any (n : Int) (w : World) (ht : Tab w) :
    Calls Tryd.prog 34 #[.int .i64 n] w fun e w' => e = .returned (.tuple #[.string (showR n).1, .int .i64 (showR n).2]) ∧ Below w.heap.size w w' := by
  have HT : Hid (Tab w) := ht
  clear ht
  rcases bool_cases (wtB n) with h | h
  · by_cases g : n = 1000000001
    · subst g
      have HQ := showR_inf
      have HQ' : Hid (showR 1000000001 = (⟨#[105, 110, 102]⟩, 0)) := HQ
      have HH : Hid (wtB 1000000001 = true) := h
      clear HQ h
      go_enter Tryd.func34, Tryd.ntmps34
      go_wp2_with (first | (go_at_call 54; refine (are_one _ true _ _ _ (by simp) HH.out).mono ?_; rintro e w' ⟨rfl, rfl⟩))
      go_ret2
      exact ⟨ret_sp HQ'.out, (Below.refl _ _).alloc (Nat.le_refl _) _⟩
    · have HQ : Hid (showR n = (⟨(Lib.itoa n).toArray⟩, 0)) := showR_num h g
      have HH : Hid (wtB n = true) := h
      have hb := wtB_true.1 h
      have hg : (n == 1000000001) = false := by simpa using g
      have hb2 : 0 ≤ n ∧ n ≤ 1000000000 := by omega
      clear h g hb
      generalize hs : (⟨(Lib.itoa n).toArray⟩ : ByteArray) = s at HQ
      have HS : Hid ((⟨(Lib.itoa n).toArray⟩ : ByteArray) = s) := hs
      clear hs
      go_enter Tryd.func34, Tryd.ntmps34
      go_wp2_with (first | (go_at_call 54; refine (are_one _ true _ _ _ (by simp) HH.out).mono ?_; rintro e w' ⟨rfl, rfl⟩) | (go_at_call 33; refine (Tryd.strconv_Itoa _ (by omega) (by omega) _ (HT.out.later ((Below.refl _ _).alloc (Nat.le_refl _) _))).mono ?_; rw [HS.out]; rintro e w' ⟨rfl, k, os, rfl⟩))
      go_ret2
      exact ⟨ret_sp HQ.out, ((Below.refl _ _).alloc (Nat.le_refl _) _).trans ((below_grow _ _ _).mono (by simp))⟩
  · have HQ : Hid (showR n = (⟨#[]⟩, 2)) := showR_bad h
    have HH : Hid (wtB n = false) := h
    clear h
    go_enter Tryd.func34, Tryd.ntmps34
    go_wp2_with (first | (go_at_call 54; refine (are_one _ false _ _ _ (by simp) HH.out).mono ?_; rintro e w' ⟨rfl, rfl⟩))
    go_ret2
    exact ⟨ret_sp HQ.out, (Below.refl _ _).alloc (Nat.le_refl _) _⟩
end Go.Proofs.YthaefajpdncoeaaDoor.Wt
namespace Go.Proofs.YthaefajpdncoeaaDoor.Wt
open Go.ChangeShapes Go.WideShapes Go.ChangeAt Go.RowKit
open Go.Proofs.YthaefajpdncoeaaDoor.Pl
set_option linter.unusedVariables false

set_option maxHeartbeats 1000000 in
theorem isNumber_any (s : ByteArray) (w : World) (hs : s.size ≤ maxLen) (r : Bool) (hr : numB (bl s) = r) :
    Calls Tryd.prog 70 #[.string s] w fun e w' => e = .returned (.bool r) ∧ w = w' := by
  subst hr
  unfold maxLen at hs
  by_cases h0 : s.size = 0
  · have he : s.toList.isEmpty = true := by rw [empty_toList]; simpa using h0
    have HN : Hid (numB (bl s) = false) := numB_empty s h0
    clear h0
    go_enter Tryd.func70, Tryd.ntmps70
    go_wp2
    go_ret
    exact ⟨ret_bool HN.out.symm, rfl⟩
  · have hp : 0 < s.size := by omega
    have he : s.toList.isEmpty = false := by rw [empty_toList]; simpa using h0
    have hN := numB_bl s hp
    clear h0
    rcases (show (((s[0].toNat : Int) == 48) = true ∧ 1 < s.size) ∨ (((s[0].toNat : Int) == 48) = false) ∨ (((s[0].toNat : Int) == 48) = true ∧ ¬ 1 < s.size) from by
      rcases bool_cases ((s[0].toNat : Int) == 48) with h | h
      · by_cases g : 1 < s.size
        · exact .inl ⟨h, g⟩
        · exact .inr (.inr ⟨h, g⟩)
      · exact .inr (.inl h)) with ⟨h48, h1⟩ | h48 | ⟨h48, h1⟩
    · have HN : Hid (numB (bl s) = false) := by show _ = _; rw [hN true (by rw [h48]; simpa using h1)]; rfl
      have h1' : (1 : Int) < (s.size : Int) := by omega
      clear hN
      go_enter Tryd.func70, Tryd.ntmps70
      go_wp2
      go_ret
      exact ⟨ret_bool HN.out.symm, rfl⟩
    · have HN : Hid (numB (bl s) = (bl s).all digB) := by show _ = _; rw [hN false (by rw [h48]; rfl)]; rfl
      clear hN
      go_enter Tryd.func70, Tryd.ntmps70
      go_wp2
      go_loop [18] (fun i => ∃ k : Nat, k ≤ s.size ∧ i = .int .i64 k ∧ ((bl s).take k).all digB = true) (fun i => s.size - (intOf i).toNat)
      case atStart => exact ⟨0, Nat.zero_le _, rfl, rfl⟩
      case round =>
        obtain ⟨k, hk, rfl, hd⟩ := hrel
        have HD : Hid (((bl s).take k).all digB = true) := hd
        clear hd
        by_cases hlt : k < s.size
        · have HS : Hid (((bl s).take (k + 1)).all digB = (((bl s).take k).all digB && digB s[k])) := by show _ = _; rw [bl_take s k hlt, all_snoc]
          have HF : Hid (digB s[k] = false → (bl s).all digB = false) := fun h => all_false_of _ k _ (bl_get s k hlt) h
          by_cases c1 : (s[k].toNat : Int) < 48
          · go_wp2
            go_ret
            exact ⟨ret_bool (by rw [HN.out, HF.out (digB_false.2 (by omega))]), rfl⟩
          · by_cases c2 : 57 < (s[k].toNat : Int)
            · go_wp2
              go_ret
              exact ⟨ret_bool (by rw [HN.out, HF.out (digB_false.2 (by omega))]), rfl⟩
            · go_wp2
              go_round
              case rel => exact ⟨k + 1, by omega, by go_num, by rw [HS.out, HD.out, digB_true.2 (by omega)]; rfl⟩
              case measure => simp [intOf]; omega
        · have HL : Hid ((bl s).all digB = true) := by
            show _ = _
            have h := HD.out
            rw [List.take_of_length_le (by rw [bl_length]; omega)] at h
            exact h
          go_wp2
          go_ret
          exact ⟨ret_bool (by rw [HN.out, HL.out]), rfl⟩
    · have HN : Hid (numB (bl s) = (bl s).all digB) := by show _ = _; rw [hN false (by rw [h48]; simpa using h1)]; rfl
      have h1' : ¬ (1 : Int) < (s.size : Int) := by omega
      clear hN
      go_enter Tryd.func70, Tryd.ntmps70
      go_wp2
      go_loop [18] (fun i => ∃ k : Nat, k ≤ s.size ∧ i = .int .i64 k ∧ ((bl s).take k).all digB = true) (fun i => s.size - (intOf i).toNat)
      case atStart => exact ⟨0, Nat.zero_le _, rfl, rfl⟩
      case round =>
        obtain ⟨k, hk, rfl, hd⟩ := hrel
        have HD : Hid (((bl s).take k).all digB = true) := hd
        clear hd
        by_cases hlt : k < s.size
        · have HS : Hid (((bl s).take (k + 1)).all digB = (((bl s).take k).all digB && digB s[k])) := by show _ = _; rw [bl_take s k hlt, all_snoc]
          have HF : Hid (digB s[k] = false → (bl s).all digB = false) := fun h => all_false_of _ k _ (bl_get s k hlt) h
          by_cases c1 : (s[k].toNat : Int) < 48
          · go_wp2
            go_ret
            exact ⟨ret_bool (by rw [HN.out, HF.out (digB_false.2 (by omega))]), rfl⟩
          · by_cases c2 : 57 < (s[k].toNat : Int)
            · go_wp2
              go_ret
              exact ⟨ret_bool (by rw [HN.out, HF.out (digB_false.2 (by omega))]), rfl⟩
            · go_wp2
              go_round
              case rel => exact ⟨k + 1, by omega, by go_num, by rw [HS.out, HD.out, digB_true.2 (by omega)]; rfl⟩
              case measure => simp [intOf]; omega
        · have HL : Hid ((bl s).all digB = true) := by
            show _ = _
            have h := HD.out
            rw [List.take_of_length_le (by rw [bl_length]; omega)] at h
            exact h
          go_wp2
          go_ret
          exact ⟨ret_bool (by rw [HN.out, HL.out]), rfl⟩

theorem numV_take_bd (s : ByteArray) (k : Nat) (h : k ≤ 12) (hd : (bl s).all digB = true) : 0 ≤ numV ((bl s).take k) ∧ numV ((bl s).take k) < 1000000000000 := by
  have h1 := numV_bd _ (all_take (bl s) k hd)
  have h2 := pow12 ((bl s).take k).length (by rw [List.length_take]; omega)
  omega

theorem numberOf_any (s : ByteArray) (w : World) (hs : s.size ≤ 12) (hd : (bl s).all digB = true) (r : Int) (hr : numV (bl s) = r) :
    Calls Tryd.prog 71 #[.string s] w fun e w' => e = .returned (.int .i64 r) ∧ w = w' := by
  subst hr
  have HD : Hid ((bl s).all digB = true) := hd
  clear hd
  go_enter Tryd.func71, Tryd.ntmps71
  go_wp2
  go_loop [3, 7] (fun n i => ∃ k : Nat, k ≤ s.size ∧ i = .int .i64 k ∧ n = .int .i64 (numV ((bl s).take k))) (fun _ i => s.size - (intOf i).toNat)
  case atStart => exact ⟨0, Nat.zero_le _, rfl, rfl⟩
  case round =>
    obtain ⟨k, hk, rfl, rfl⟩ := hrel
    by_cases hlt : k < s.size
    · have HS : Hid (numV ((bl s).take (k + 1)) = 10 * numV ((bl s).take k) + ((s[k].toNat : Int) - 48)) := by show _ = _; rw [bl_take s k hlt, numV_snoc]
      obtain ⟨b1, b2⟩ := numV_take_bd s k (by omega) HD.out
      have hc : digB s[k] = true := by
        have h := HD.out
        rw [List.all_eq_true] at h
        exact h _ (List.mem_of_getElem? (bl_get s k hlt))
      obtain ⟨c1, c2⟩ := digB_true.1 hc
      clear hc
      generalize numV ((bl s).take k) = m at HS b1 b2
      go_wp2
      go_round
      case rel => exact ⟨k + 1, by omega, by go_num, by rw [HS.out]; exact congrArg _ (by omega)⟩
      case measure => simp [intOf]; omega
    · have HL : Hid ((bl s).take k = bl s) := List.take_of_length_le (by rw [bl_length]; omega)
      rw [HL.out]
      go_wp2
      go_ret
      exact ⟨rfl, rfl⟩

theorem numB_all {l : List UInt8} (h : numB l = true) : l.all digB = true := by
  unfold numB at h
  rw [Bool.and_eq_true] at h
  exact h.2

set_option maxHeartbeats 1000000 in
theorem read_any (s : ByteArray) (w : World) (hs : s.size ≤ maxLen) :
    Calls Tryd.prog 58 #[.string s] w fun e w' => e = .returned (.tuple #[.int .i64 (readR s).1, .int .i64 (readR s).2]) ∧ w = w' := by
  have HZ : Hid (s.size ≤ maxLen) := hs
  unfold maxLen at hs
  have HR : Hid (readR s = if (s.toList == [105, 110, 102]) = true then (1000000001, 0) else if 12 < s.size then (0, 1) else if numB (bl s) = false then (0, 3) else if 1000000000 < numV (bl s) then (0, 4) else (numV (bl s), 0)) := rfl
  rcases bool_cases (s.toList == [105, 110, 102]) with hi | hi
  · have HQ : Hid (readR s = (1000000001, 0)) := by show _ = _; rw [HR.out, if_pos hi]
    go_enter Tryd.func58, Tryd.ntmps58
    go_wp2
    go_ret2
    exact ⟨ret_pair HQ.out, rfl⟩
  · have HI : Hid ((s.toList == [105, 110, 102]) ≠ true) := by show _ ≠ _; rw [hi]; simp
    by_cases hl : 12 < s.size
    · have HQ : Hid (readR s = (0, 1)) := by show _ = _; rw [HR.out, if_neg HI.out, if_pos hl]
      have hl' : (12 : Int) < (s.size : Int) := by omega
      go_enter Tryd.func58, Tryd.ntmps58
      go_wp2
      go_ret2
      exact ⟨ret_pair HQ.out, rfl⟩
    · have hl' : ¬ (12 : Int) < (s.size : Int) := by omega
      rcases bool_cases (numB (bl s)) with hn | hn
      · have HN : Hid (numB (bl s) = true) := hn
        have HQ0 : Hid (readR s = if 1000000000 < numV (bl s) then (0, 4) else (numV (bl s), 0)) := by show _ = _; rw [HR.out, if_neg HI.out, if_neg hl, if_neg (by rw [hn]; simp)]
        clear hn
        generalize hv : numV (bl s) = v at HQ0
        have HV : Hid (numV (bl s) = v) := hv
        clear hv
        by_cases hm : 1000000000 < v
        · have HQ : Hid (readR s = (0, 4)) := by show _ = _; rw [HQ0.out, if_pos hm]
          go_enter Tryd.func58, Tryd.ntmps58
          go_wp2_with (first | (go_at_call 70; refine (isNumber_any _ _ HZ.out true HN.out).mono ?_; rintro e w' ⟨rfl, rfl⟩) | (go_at_call 71; refine (numberOf_any _ _ (by omega) (numB_all HN.out) v HV.out).mono ?_; rintro e w' ⟨rfl, rfl⟩))
          go_ret2
          exact ⟨ret_pair HQ.out, rfl⟩
        · have HQ : Hid (readR s = (v, 0)) := by show _ = _; rw [HQ0.out, if_neg hm]
          go_enter Tryd.func58, Tryd.ntmps58
          go_wp2_with (first | (go_at_call 70; refine (isNumber_any _ _ HZ.out true HN.out).mono ?_; rintro e w' ⟨rfl, rfl⟩) | (go_at_call 71; refine (numberOf_any _ _ (by omega) (numB_all HN.out) v HV.out).mono ?_; rintro e w' ⟨rfl, rfl⟩))
          go_ret2
          exact ⟨ret_pair HQ.out, rfl⟩
      · have HN : Hid (numB (bl s) = false) := hn
        have HQ : Hid (readR s = (0, 3)) := by show _ = _; rw [HR.out, if_neg HI.out, if_neg hl, if_pos hn]
        clear hn
        go_enter Tryd.func58, Tryd.ntmps58
        go_wp2_with (first | (go_at_call 70; refine (isNumber_any _ _ HZ.out false HN.out).mono ?_; rintro e w' ⟨rfl, rfl⟩))
        go_ret2
        exact ⟨ret_pair HQ.out, rfl⟩
end Go.Proofs.YthaefajpdncoeaaDoor.Wt
namespace Go.Proofs.YthaefajpdncoeaaDoor.Wt
open Go.ChangeShapes Go.WideShapes Go.ChangeAt Go.RowKit
open Go.Proofs.YthaefajpdncoeaaDoor.Pl
set_option linter.unusedVariables false
theorem ext_take (s : ByteArray) (k : Nat) : s.extract 0 k = textS (s.data.toList.take k) := by
  apply bytes_inj2
  simp [textS, ByteArray.data_extract]
theorem ext_drop (s : ByteArray) (k : Nat) : s.extract k s.size = textS (s.data.toList.drop k) := by
  apply bytes_inj2
  have e : s.size = s.data.size := rfl
  rw [e]
  simp [textS, ByteArray.data_extract]
  rw [List.take_of_length_le (by simp)]
theorem textS_self (s : ByteArray) : textS s.data.toList = s := by
  apply bytes_inj2
  simp [textS]
theorem cutIn_any (s : ByteArray) (c : UInt8) (w : World) (hs : s.size ≤ 1000000) :
    Calls Tryd.prog 55 #[.string s, .string ⟨#[c]⟩] w fun e w' => e = .returned (.tuple #[.string (textS (bef c s.data.toList)), .string (textS (aft c s.data.toList)), .bool (fnd c s.data.toList)]) ∧ ∃ n, w' = w.drewN n := by
  have hl : s.data.toList.length = s.size := by simp
  rcases idx_cases c s.data.toList with ⟨h1, h2, h3, h4⟩ | ⟨h1, k, h2, h3, h4, h5⟩
  · have HQ : Hid (Lib.indexByte s.data.toList c = -1) := h2
    have HE : Hid ((.tuple #[.string s, .string ⟨#[]⟩, .bool false] : Value) = .tuple #[.string (textS (bef c s.data.toList)), .string (textS (aft c s.data.toList)), .bool (fnd c s.data.toList)]) := by
      show _ = _; rw [h1, h3, h4, textS_self]; rfl
    clear h1 h2 h3 h4
    go_enter Tryd.func55, Tryd.ntmps55
    go_wp2_with (first | (go_at_call 64; (refine (Tryd.stringslite_Index_one _ c _).mono ?_); rw [HQ.out]; rintro e w' ⟨rfl, rfl⟩))
    go_returns
    exact ⟨congrArg Ending.returned HE.out, 0, rfl⟩
  · have HQ : Hid (Lib.indexByte s.data.toList c = (k : Int)) := h2
    have HE : Hid ((.tuple #[.string (s.extract 0 k), .string (s.extract (k + 1) s.size), .bool true] : Value) = .tuple #[.string (textS (bef c s.data.toList)), .string (textS (aft c s.data.toList)), .bool (fnd c s.data.toList)]) := by
      show _ = _; rw [h1, h4, h5, ext_take, ext_drop]
    have hk0 : (0 : Int) ≤ (k : Int) := by omega
    have hk1 : k < s.size := by omega
    have hk2 : (k : Int) + 1 ≤ (s.size : Int) := by omega
    clear h1 h2 h3 h4 h5
    go_enter Tryd.func55, Tryd.ntmps55
    go_wp2_with (first | (go_at_call 64; (refine (Tryd.stringslite_Index_one _ c _).mono ?_); rw [HQ.out]; rintro e w' ⟨rfl, rfl⟩))
    go_quiet (fail)
    go_wp2
    go_returns
    exact ⟨congrArg Ending.returned HE.out, _, rfl⟩
theorem cut_any (s : ByteArray) (c : UInt8) (w : World) (hs : s.size ≤ 1000000) (x y : ByteArray) (b : Bool) (hx : textS (bef c s.data.toList) = x) (hy : textS (aft c s.data.toList) = y) (hb : fnd c s.data.toList = b) :
    Calls Tryd.prog 40 #[.string s, .string ⟨#[c]⟩] w fun e w' => e = .returned (.tuple #[.string x, .string y, .bool b]) ∧ ∃ n, w' = w.drewN n := by
  have HC : Hid (Calls Tryd.prog 55 #[.string s, .string ⟨#[c]⟩] w fun e w' => e = .returned (.tuple #[.string x, .string y, .bool b]) ∧ ∃ n, w' = w.drewN n) := by
    have h := cutIn_any s c w hs; rw [hx, hy, hb] at h; exact h
  clear hx hy hb
  go_enter Tryd.func40, Tryd.ntmps40
  go_wp2_with (first | (go_at_call 55; (with_reducible refine HC.out.mono ?_); rintro e w' ⟨rfl, hn⟩))
  go_returns
  exact ⟨rfl, hn⟩
end Go.Proofs.YthaefajpdncoeaaDoor.Wt
