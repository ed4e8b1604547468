/- The best of all cuts of two words (no program in sight). -/
import Derived.Test.YtfpibdaedfilaaaHak
namespace Go.Proofs.Ytfpibdaedfilaaa.Pl
set_option linter.unusedVariables false
set_option linter.unusedSimpArgs false
theorem cst_exists {P : Nat → Prop} (hb : ∀ c, P c → ∃ d, d ≤ 100000000 ∧ P d) : ∃ n, CstIs P n := by
  by_cases h : ∃ c, P c
  · obtain ⟨c, hc⟩ := h
    have key : ∀ k, (∃ d, d ≤ k ∧ P d) → ∃ c, LeastP P c ∧ c ≤ k := by
      intro k
      induction k with
      | zero =>
        rintro ⟨d, hd, hp⟩
        obtain rfl : d = 0 := by omega
        exact ⟨0, ⟨hp, fun _ _ => Nat.zero_le _⟩, Nat.le_refl _⟩
      | succ k ih =>
        rintro ⟨d, hd, hp⟩
        by_cases g : ∃ d, d ≤ k ∧ P d
        · obtain ⟨c, h1, h2⟩ := ih g
          exact ⟨c, h1, by omega⟩
        · have hdk : d = k + 1 := by
            by_cases e : d ≤ k
            · exact absurd ⟨d, e, hp⟩ g
            · omega
          subst hdk
          refine ⟨k + 1, ⟨hp, fun e he => ?_⟩, Nat.le_refl _⟩
          by_cases g2 : e ≤ k
          · exact absurd ⟨e, g2, he⟩ g
          · omega
    obtain ⟨c, h1, h2⟩ := key 100000000 (hb c hc)
    exact ⟨_, .inr ⟨c, h1, h2, rfl⟩⟩
  · exact ⟨_, .inl ⟨rfl, fun c hc => h ⟨c, hc⟩⟩⟩
end Go.Proofs.Ytfpibdaedfilaaa.Pl
