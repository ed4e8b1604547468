/- The reference: a label changed. -/
import Derived.Test.YtfffelgmgghldaaMcR
import Derived.Test.YtfffelgmgghldaaCb
namespace Go.Proofs.Ytfffelgmgghldaa.Wt
open Go.ChangeShapes Go.WideShapes Go.ChangeAt Go.RowKit
open Go.Proofs.Ytfffelgmgghldaa.Pl
set_option linter.unusedVariables false
set_option linter.unusedSimpArgs false
theorem changed_any (v : Value) (l : List Ch) (x : Int) (w : World) (h : Chs w v l) (hl : l.length ≤ 50) :
    Calls Try.prog 37 #[v, .int .i64 x] w fun e w' => e = .returned (.int .i64 (chgF l x)) ∧ w = w' := by
  obtain ⟨a, cap, rfl, hc⟩ := h.get
  have HC : Hid (∀ j, j < l.length → ∃ b off, a = some ⟨b, off, none⟩ ∧ b < w.heap.size ∧ w.cell? ⟨b, off + j * 2, none⟩ = some (.int .i64 (el l j).1) ∧ w.cell? ⟨b, off + j * 2 + 1, none⟩ = some (.int .i64 (el l j).2)) := hc
  have HH : Hid (∀ i, i < l.length → (∀ j, j < i → (el l j).1 ≠ x) → (el l i).1 = x → chgF l x = (el l i).2) := fun i => chg_hit
  have HN0 : Hid ((∀ j, j < l.length → (el l j).1 ≠ x) → chgF l x = x) := chg_none
  clear h hc
  generalize chgF l x = r at *
  generalize l.length = n at *
  go_enter Try.func37, Try.ntmps37
  go_wp2
  go_loop [5] (fun i => ∃ k : Nat, k ≤ n ∧ i = .int .i64 k ∧ Hid (∀ j, j < k → (el l j).1 ≠ x)) (fun i => n - (intOf i).toNat)
  case atStart => exact ⟨0, Nat.zero_le _, rfl, fun j hj => absurd hj (by omega)⟩
  case round =>
    obtain ⟨k, hk, rfl, hno⟩ := hrel
    by_cases hlt : k < n
    · have hlt' : (k : Int) < (n : Int) := by omega
      have hk0 : (0 : Int) ≤ (k : Int) := by omega
      obtain ⟨b, off, rfl, hb, g0, g1⟩ := HC.out k hlt
      have HH1 := hidP (HH.out k hlt hno.out)
      have HS : Hid ((el l k).1 ≠ x → ∀ j, j < k + 1 → (el l j).1 ≠ x) := fun g j hj => by
        by_cases e : j = k
        · rw [e]; exact g
        · exact hno.out j (by omega)
      generalize el l k = p at *
      obtain ⟨p0, p1⟩ := p
      simp only at g0 g1 HH1 HS
      by_cases hp : p0 = x
      · have hp' : (p0 == x) = true := by simpa using hp
        have hr : r = p1 := HH1.out hp
        clear hp
        subst hr
        go_wp2
        go_ret
        exact ⟨rfl, rfl⟩
      · have hp' : (p0 == x) = false := by simpa using hp
        have HS' := hidP (HS.out hp)
        clear hp
        go_wp2
        go_round
        case rel => exact ⟨k + 1, by omega, by go_num, HS'⟩
        case measure => simp [intOf]; omega
    · have hlt' : ¬ (k : Int) < (n : Int) := by omega
      obtain rfl : n = k := by omega
      have hr : r = x := HN0.out hno.out
      subst hr
      go_wp2
      go_ret
      exact ⟨rfl, rfl⟩
end Go.Proofs.Ytfffelgmgghldaa.Wt
