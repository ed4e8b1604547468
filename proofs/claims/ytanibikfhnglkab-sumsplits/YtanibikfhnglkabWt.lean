/- What areWeights, least and Plus of the program answer, each at every argument (contracts of callees, used by the laws of stage 1). -/
import Derived.Test.YtanibikfhnglkabRows
import Derived.Test.YtanibikfhnglkabPlain
import Derived.WalkKit
import Derived.ProofKit
import Derived.OpenShut
namespace Go.Proofs.Ytanibikfhnglkab.Wt
open Go.ChangeShapes Go.WideShapes Go.ChangeAt Go.RowKit
open Go.Proofs.Ytanibikfhnglkab.Pl
set_option linter.unusedVariables false

theorem are_some (b off len cap : Nat) (zs : List Int) (w : World) (hz : zs.length = len) (hm : len ≤ maxLen)
    (hc : ∀ i, i < len → w.cell? ⟨b, off + i, none⟩ = some (.int .i64 (zs[i]?.getD 0))) :
    Calls Try.prog 15 #[.slice (some ⟨b, off, none⟩) len cap] w fun e w' => e = .returned (.bool (allW zs)) ∧ w' = w := by
  unfold maxLen at hm
  go_enter Try.func15, Try.ntmps15
  go_wp2
  go_loop [7] (fun i => ∃ k : Nat, k ≤ len ∧ i = .int .i64 k ∧ allW (zs.take k) = true) (fun i => len - (intOf i).toNat)
  case atStart => exact ⟨0, Nat.zero_le _, rfl, rfl⟩
  case round =>
    obtain ⟨k, hk, rfl, hall⟩ := hrel
    by_cases hlt : k < len
    · have g := hc k hlt
      have hs := allW_snoc zs k (by omega)
      have hf := allW_false_of zs k (by omega)
      rw [hall] at hs
      generalize zs[k]?.getD 0 = x at g hs hf
      have HS : Hid (allW (zs.take (k + 1)) = (true && wtB x)) := hs
      have HF : Hid (wtB x = false → allW zs = false) := hf
      clear hall hc hs hf
      by_cases hx : x = 1000000001
      · subst hx
        go_wp2
        go_round
        case rel => exact ⟨k + 1, by omega, by go_num, by rw [HS.out]; rfl⟩
        case measure => simp [intOf]; omega
      · have hne : (x != 1000000001) = true := by simpa using hx
        by_cases h0 : x < 0
        · go_wp2
          go_ret
          exact ⟨ret_bool (HF.out (wtB_false.2 (by omega))).symm, rfl⟩
        · by_cases h1 : 1000000000 < x
          · go_wp2
            go_ret
            exact ⟨ret_bool (HF.out (wtB_false.2 (by omega))).symm, rfl⟩
          · go_wp2
            go_round
            case rel => exact ⟨k + 1, by omega, by go_num, by rw [HS.out, wtB_true.2 (by omega)]; rfl⟩
            case measure => simp [intOf]; omega
    · have hkl : k = len := by omega
      rw [hkl, ← hz, List.take_length] at hall
      have HA : Hid (allW zs = true) := hall
      clear hall hkl
      go_wp2
      go_ret
      exact ⟨ret_bool HA.out.symm, rfl⟩

theorem least_some (b off len cap : Nat) (zs : List Int) (w : World) (hz : zs.length = len) (hm : len ≤ maxLen)
    (hc : ∀ i, i < len → w.cell? ⟨b, off + i, none⟩ = some (.int .i64 (zs[i]?.getD 0))) :
    Calls Try.prog 16 #[.slice (some ⟨b, off, none⟩) len cap] w fun e w' => e = .returned (.int .i64 (minL zs)) ∧ w' = w := by
  unfold maxLen at hm
  go_enter Try.func16, Try.ntmps16
  go_wp2
  go_loop [3, 8] (fun m i => ∃ k : Nat, k ≤ len ∧ i = .int .i64 k ∧ m = .int .i64 (minL (zs.take k))) (fun _ i => len - (intOf i).toNat)
  case atStart => exact ⟨0, Nat.zero_le _, rfl, rfl⟩
  case round =>
    obtain ⟨k, hk, rfl, rfl⟩ := hrel
    by_cases hlt : k < len
    · have g := hc k hlt
      have hs := minL_snoc zs k (by omega)
      generalize zs[k]?.getD 0 = x at g hs
      have HS : Hid (minL (zs.take (k + 1)) = min (minL (zs.take k)) x) := hs
      clear hc hs
      generalize minL (zs.take k) = m at HS
      go_wp2
      go_round
      case rel => exact ⟨k + 1, by omega, by go_num, by rw [HS.out]; exact congrArg _ (ite_min m x)⟩
      case measure => simp [intOf]; omega
    · have hkl : k = len := by omega
      have hl : minL (zs.take k) = minL zs := by rw [hkl, ← hz, List.take_length]
      rw [hl]
      clear hl hkl
      go_wp2
      go_ret
      exact ⟨rfl, rfl⟩
theorem two_cells (a b : Int) (t : TypeId) (w : World) : ∀ i, i < 2 → (w.alloc (.cells #[.int .i64 a, .int .i64 b] t)).cell? ⟨w.heap.size, 0 + i, none⟩ = some (.int .i64 ([a, b][i]?.getD 0)) := by
  intro i hi
  match i, hi with
  | 0, _ => simp
  | 1, _ => simp
theorem are_two (a b : Int) (r : Bool) (t : TypeId) (w : World) (n : Nat) (hn : n = w.heap.size) (h : (wtB a && wtB b) = r) :
    Calls Try.prog 15 #[.slice (some ⟨n, 0, none⟩) 2 2] (w.alloc (.cells #[.int .i64 a, .int .i64 b] t)) fun e w' => e = .returned (.bool r) ∧ (w.alloc (.cells #[.int .i64 a, .int .i64 b] t)) = w' := by
  subst hn
  refine (are_some w.heap.size 0 2 2 [a, b] _ rfl (by decide) (two_cells a b t w)).mono ?_
  rintro e w' ⟨rfl, rfl⟩
  exact ⟨ret_bool (by rw [← h]; simp [allW]), rfl⟩
theorem least_two (a b r : Int) (t : TypeId) (w : World) (n : Nat) (hn : n = w.heap.size) (h : minL [a, b] = r) :
    Calls Try.prog 16 #[.slice (some ⟨n, 0, none⟩) 2 2] (w.alloc (.cells #[.int .i64 a, .int .i64 b] t)) fun e w' => e = .returned (.int .i64 r) ∧ (w.alloc (.cells #[.int .i64 a, .int .i64 b] t)) = w' := by
  subst hn
  refine (least_some w.heap.size 0 2 2 [a, b] _ rfl (by decide) (two_cells a b t w)).mono ?_
  rintro e w' ⟨rfl, rfl⟩
  exact ⟨ret_int h, rfl⟩
theorem plus_any (a b : Int) (w : World) :
    Calls Try.prog 13 #[.int .i64 a, .int .i64 b] w fun e w' => e = .returned (.tuple #[.int .i64 (plusR a b).1, .int .i64 (plusR a b).2]) ∧ Below w.heap.size w w' := by
  rcases bool_cases (wtB a && wtB b) with h | h
  · have HM : Hid (minL [a, b] = min a b) := minL_two h
    have HP : Hid (plusR a b = (min a b, 0)) := by show _ = _; simp [plusR, h]
    have HH : Hid ((wtB a && wtB b) = true) := h
    clear h
    generalize hm : min a b = m at HM HP
    clear hm
    go_enter Try.func13, Try.ntmps13
    go_wp2_with (first | (go_at_call 15; refine (are_two _ _ true _ _ _ (by simp) HH.out).mono ?_; rintro e w' ⟨rfl, rfl⟩) | (go_at_call 16; refine (least_two _ _ m _ _ _ (by simp) HM.out).mono ?_; rintro e w' ⟨rfl, rfl⟩))
    go_ret2
    exact ⟨ret_pair HP.out, ((Below.refl _ _).alloc (Nat.le_refl _) _).alloc (by simp) _⟩
  · have HP : Hid (plusR a b = (0, 2)) := by show _ = _; simp [plusR, h]
    have HH : Hid ((wtB a && wtB b) = false) := h
    clear h
    go_enter Try.func13, Try.ntmps13
    go_wp2_with (first | (go_at_call 15; refine (are_two _ _ false _ _ _ (by simp) HH.out).mono ?_; rintro e w' ⟨rfl, rfl⟩))
    go_ret2
    exact ⟨ret_pair HP.out, (Below.refl _ _).alloc (Nat.le_refl _) _⟩

end Go.Proofs.Ytanibikfhnglkab.Wt
