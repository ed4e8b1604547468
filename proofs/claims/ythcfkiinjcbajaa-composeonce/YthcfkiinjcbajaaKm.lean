/- The keeping statements' comparison of two lists of numbers. -/
import Derived.Test.YthcfkiinjcbajaaJ16j
import Derived.Test.YthcfkiinjcbajaaRn
import Derived.BigQuiet
namespace Go.Proofs.Ythcfkiinjcbajaa.Wt
open Go.ChangeShapes Go.WideShapes Go.ChangeAt Go.RowKit
open Go.Proofs.Ythcfkiinjcbajaa.Pl
set_option linter.unusedVariables false
set_option linter.unusedSimpArgs false
theorem belowDrewM {B : Nat} {a w : World} (h : Below B a w) (q : Nat) : Below B a (w.drewN q) := ⟨h.os, h.tape, h.output, h.size, h.block⟩
theorem sameIntsK_any (v1 v2 : Value) (l1 l2 : List Int) (w : World) (h1 : Nums w v1 l1) (h2 : Nums w v2 l2) (hl : l1.length ≤ 100) (r : Bool) (hr : decide (l1 = l2) = r) :
    Calls Try.prog 24 #[v1, v2] w fun e w' => e = .returned (.bool r) ∧ Below w.heap.size w w' := by
  obtain ⟨a, cap, rfl, hc⟩ := h1.get
  obtain ⟨a2, cap2, rfl, hc2⟩ := h2.get
  have HC := hidP hc
  have HC2 := hidP hc2
  by_cases hlen : l1.length = l2.length
  · have hne : ((l1.length : Int) != (l2.length : Int)) = false := by simp [hlen]
    have HT : Hid ((∀ j, j < l1.length → el l1 j = el l2 j) → r = true) := fun h => by rw [← hr]; exact decide_eq_true (el_ext hlen h)
    have HF : Hid (∀ j, el l1 j ≠ el l2 j → r = false) := fun j h => by rw [← hr]; exact decide_eq_false (fun e => h (by rw [e]))
    rw [← hlen] at HC2 ⊢
    clear h1 h2 hc hc2 hne hr
    generalize l1.length = n at *
    have hne : ((n : Int) != (n : Int)) = false := by simp
    go_enter Try.func24, Try.ntmps24
    go_wp2
    go_loopw [5] (fun i wr => ∃ k q : Nat, k ≤ n ∧ i = .int .i64 k ∧ wr = w.drewN q ∧ Hid (∀ j, j < k → el l1 j = el l2 j)) (fun i _ => n - (intOf i).toNat)
    case atStart => exact ⟨0, 0, Nat.zero_le _, rfl, (World.drewN_zero w).symm, fun j hj => absurd hj (by omega)⟩
    case round =>
      obtain ⟨k, q, hk, rfl, rfl, hall⟩ := hrel
      by_cases hlt : k < n
      · obtain ⟨b, off, rfl, _, g0⟩ := HC.out k hlt
        obtain ⟨b2, off2, rfl, _, r0⟩ := HC2.out k hlt
        have hk0 : (0 : Int) ≤ (k : Int) := by omega
        have hk1 : (k : Int) < (n : Int) := by omega
        by_cases he : el l1 k = el l2 k
        · have HA : Hid (∀ j, j < k + 1 → el l1 j = el l2 j) := fun j hj => by
            by_cases e : j = k
            · rw [e]; exact he
            · exact hall.out j (by omega)
          rw [← he] at r0
          generalize el l1 k = x at *
          have hx : (x != x) = false := by simp
          clear he
          go_wp2
          go_quiet (fail)
          go_wp2
          go_roundw
          case rel => exact ⟨k + 1, q + nq, by omega, by go_num, by first | rfl | rw [World.drewN_drewN], HA⟩
          case measure => simp [intOf]; omega
        · have hrf := HF.out k he
          subst hrf
          generalize el l1 k = x at *
          generalize el l2 k = y at *
          have hx : (x != y) = true := bne_iff_ne.2 he
          clear he
          go_wp2
          go_quiet (fail)
          go_wp2
          go_ret
          exact ⟨rfl, belowDrewM (belowDrewM (Below.refl _ _) q) _⟩
      · have hnl : ¬ (k : Int) < (n : Int) := by omega
        obtain rfl : k = n := by omega
        have hrt := HT.out hall.out
        subst hrt
        go_wp2
        go_ret
        exact ⟨rfl, belowDrewM (Below.refl _ _) q⟩
  · have hne : ((l1.length : Int) != (l2.length : Int)) = true := bne_iff_ne.2 (by omega)
    have hrf : r = false := by rw [← hr]; exact decide_eq_false (fun e => hlen (by rw [e]))
    subst hrf
    clear h1 h2 hc hc2 HC HC2 hlen hr
    generalize l1.length = n at *
    generalize l2.length = n2 at *
    go_enter Try.func24, Try.ntmps24
    go_wp2
    go_ret
    exact ⟨rfl, Below.refl _ _⟩
end Go.Proofs.Ythcfkiinjcbajaa.Wt
