/- The reference: the place of a number in a list. -/
import Derived.Test.YteaafghmkkejfaaJ15n
import Derived.Test.YteaafghmkkejfaaPlainTr
namespace Go.Proofs.Yteaafghmkkejfaa.Wt
open Go.ChangeShapes Go.WideShapes Go.ChangeAt Go.RowKit
open Go.Proofs.Yteaafghmkkejfaa.Pl
set_option linter.unusedVariables false
set_option linter.unusedSimpArgs false
theorem place_any (v : Value) (ks : List Int) (x : Int) (w : World) (h : Nums w v ks) (hl : ks.length ≤ 4398046511104) (r : Int) (hr : placeI ks x = r) :
    Calls Try.prog 43 #[v, .int .i64 x] w fun e w' => e = .returned (.int .i64 r) ∧ w = w' := by
  subst hr
  obtain ⟨a, cap, rfl, hc⟩ := h.get
  have HC : Hid (∀ j, j < ks.length → ∃ b off, a = some ⟨b, off, none⟩ ∧ b < w.heap.size ∧ w.cell? ⟨b, off + j, none⟩ = some (.int .i64 (el ks j))) := hc
  clear h hc
  generalize hn : ks.length = n at *
  have HN : Hid (ks.length = n) := hn
  clear hn
  go_enter Try.func43, Try.ntmps43
  go_wp2
  go_loopw [5] (fun i wr => ∃ k : Nat, k ≤ n ∧ i = .int .i64 k ∧ Hid (∀ j, j < k → el ks j ≠ x) ∧ w = wr) (fun i _ => n - (intOf i).toNat)
  case atStart => exact ⟨0, Nat.zero_le _, rfl, fun j hj => absurd hj (Nat.not_lt_zero _), rfl⟩
  case round =>
    obtain ⟨k, hk, rfl, hno, rfl⟩ := hrel
    by_cases hlt : k < n
    · obtain ⟨b, off, rfl, _, g0⟩ := HC.out k hlt
      have hk0 : (0 : Int) ≤ (k : Int) := by omega
      have hk1 : (k : Int) < (n : Int) := by omega
      by_cases he : el ks k = x
      · have HP : Hid (placeI ks x = (k : Int)) := placeI_at (by rw [HN.out]; exact hlt) hno.out he
        rw [he] at g0
        clear he
        go_wp2
        go_ret
        exact ⟨by rw [HP.out]; rfl, rfl⟩
      · have HX : Hid (∀ j, j < k + 1 → el ks j ≠ x) := fun j hj => by
          by_cases e : j = k
          · subst e; exact he
          · exact hno.out j (by omega)
        have hb : (el ks k == x) = false := by simpa using he
        go_wp2
        go_roundw
        case rel => exact ⟨k + 1, by omega, by go_num, HX, by first | trivial | rfl⟩
        case measure => simp [intOf]; omega
    · have hnl : ¬ (k : Int) < (n : Int) := by omega
      have HP : Hid (placeI ks x = -1) := placeI_none (fun j hj => hno.out j (by rw [HN.out] at hj; omega))
      go_wp2
      go_ret
      exact ⟨by rw [HP.out]; rfl, rfl⟩
end Go.Proofs.Yteaafghmkkejfaa.Wt
