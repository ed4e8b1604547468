/- Composing: what Compose answers has sizes that memory bears (no program in sight). -/
import Derived.Test.YthcfkiinjcbajaaJ16d
import Derived.Test.YthcfkiinjcbajaaJ16a
namespace Go.Proofs.Ythcfkiinjcbajaa.Pl
set_option linter.unusedVariables false
theorem nil_okM (z : Int) : okM (z, []) := ⟨by simp, fun j hj => absurd hj (by simp)⟩
/-- Where an error is answered, no states are. -/
theorem cpsS_none (a b : Mc) : ∀ (k q : Nat) (L : List Tr) (S : List St) (n : Nat), (cpsS a b k q L S n).2 ≠ 0 → (cpsS a b k q L S n).1 = (0, []) := by
  intro k
  induction k with
  | zero => intro q L S n h; rfl
  | succ k ih =>
    intro q L S n h
    simp only [cpsS] at h ⊢
    split
    · rename_i h1
      rw [if_pos h1] at h
      split
      · rfl
      · rename_i h2
        rw [if_neg h2] at h
        split
        · rfl
        · rename_i h3
          rw [if_neg h3] at h
          exact ih _ _ _ _ h
    · rename_i h1
      rw [if_neg h1] at h
      exact absurd rfl h
theorem cpsA_ok (a b : Mc) : okM (cpsA a b).1 := by
  by_cases fa : faultM a = 0
  case neg => unfold cpsA; rw [if_pos fa]; exact nil_okM _
  by_cases fb : faultM b = 0
  case neg => unfold cpsA; rw [if_neg (fun h => h fa), if_pos fb]; exact nil_okM _
  by_cases hz : a.1 < 0 ∨ b.1 < 0
  · unfold cpsA; rw [if_neg (fun h => h fa), if_neg (fun h => h fb), if_pos hz]; exact nil_okM _
  · by_cases he : (cpsA a b).2 = 0
    · have e : cpsA a b = ((cpsA a b).1, 0) := by rw [← he]
      exact right_okM (cmp_right fa fb (by omega) (by omega) e).1
    · have : (cpsA a b).1 = (0, []) := by
        unfold cpsA at he ⊢
        rw [if_neg (fun h => h fa), if_neg (fun h => h fb), if_neg hz] at he ⊢
        exact cpsS_none _ _ _ _ _ _ _ he
      rw [this]
      exact nil_okM _
end Go.Proofs.Ythcfkiinjcbajaa.Pl
