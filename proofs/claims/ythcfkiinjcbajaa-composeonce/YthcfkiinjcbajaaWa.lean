/- What areWeights of the program answers, at every list of numbers. -/
import Derived.Test.YthcfkiinjcbajaaRows
import Derived.Test.YthcfkiinjcbajaaJ16q
import Derived.WalkKit
import Derived.ProofKit
import Derived.OpenShut
namespace Go.Proofs.Ythcfkiinjcbajaa.Wt
open Go.ChangeShapes Go.WideShapes Go.ChangeAt Go.RowKit
open Go.Proofs.Ythcfkiinjcbajaa.Pl
set_option linter.unusedVariables false

theorem are_some (b off len cap : Nat) (zs : List Int) (w : World) (hz : zs.length = len) (hm : len ≤ maxLen)
    (hc : ∀ i, i < len → w.cell? ⟨b, off + i, none⟩ = some (.int .i64 (zs[i]?.getD 0))) :
    Calls Try.prog 69 #[.slice (some ⟨b, off, none⟩) len cap] w fun e w' => e = .returned (.bool (allW zs)) ∧ w' = w := by
  unfold maxLen at hm
  go_enter Try.func69, Try.ntmps69
  go_wp2
  go_loop [7] (fun i => ∃ k : Nat, k ≤ len ∧ i = .int .i64 k ∧ allW (zs.take k) = true) (fun i => len - (intOf i).toNat)
  case atStart => exact ⟨0, Nat.zero_le _, rfl, rfl⟩
  case round =>
    obtain ⟨k, hk, rfl, hall⟩ := hrel
    by_cases hlt : k < len
    · have g := hc k hlt
      have hs := allW_snoc zs k (by omega)
      have hf := allW_false_of zs k (by omega)
      rw [hall] at hs
      generalize zs[k]?.getD 0 = x at g hs hf
      have HS : Hid (allW (zs.take (k + 1)) = (true && wtB x)) := hs
      have HF : Hid (wtB x = false → allW zs = false) := hf
      clear hall hc hs hf
      by_cases hx : x = 1000000001
      · subst hx
        go_wp2
        go_round
        case rel => exact ⟨k + 1, by omega, by go_num, by rw [HS.out]; rfl⟩
        case measure => simp [intOf]; omega
      · have hne : (x != 1000000001) = true := by simpa using hx
        by_cases h0 : x < 0
        · go_wp2
          go_ret
          exact ⟨ret_bool (HF.out (wtB_false.2 (by omega))).symm, rfl⟩
        · by_cases h1 : 1000000000 < x
          · go_wp2
            go_ret
            exact ⟨ret_bool (HF.out (wtB_false.2 (by omega))).symm, rfl⟩
          · go_wp2
            go_round
            case rel => exact ⟨k + 1, by omega, by go_num, by rw [HS.out, wtB_true.2 (by omega)]; rfl⟩
            case measure => simp [intOf]; omega
    · have hkl : k = len := by omega
      rw [hkl, ← hz, List.take_length] at hall
      have HA : Hid (allW zs = true) := hall
      clear hall hkl
      go_wp2
      go_ret
      exact ⟨ret_bool HA.out.symm, rfl⟩

theorem one_cells (a : Int) (t : TypeId) (w : World) : ∀ i, i < 1 → (w.alloc (.cells #[.int .i64 a] t)).cell? ⟨w.heap.size, 0 + i, none⟩ = some (.int .i64 ([a][i]?.getD 0)) := by
  intro i hi
  match i, hi with
  | 0, _ => simp
theorem are_one (a : Int) (r : Bool) (t : TypeId) (w : World) (n : Nat) (hn : n = w.heap.size) (h : wtB a = r) :
    Calls Try.prog 69 #[.slice (some ⟨n, 0, none⟩) 1 1] (w.alloc (.cells #[.int .i64 a] t)) fun e w' => e = .returned (.bool r) ∧ (w.alloc (.cells #[.int .i64 a] t)) = w' := by
  subst hn
  refine (are_some w.heap.size 0 1 1 [a] _ rfl (by decide) (one_cells a t w)).mono ?_
  rintro e w' ⟨rfl, rfl⟩
  exact ⟨ret_bool (by rw [← h]; simp [allW]), rfl⟩
end Go.Proofs.Ythcfkiinjcbajaa.Wt
