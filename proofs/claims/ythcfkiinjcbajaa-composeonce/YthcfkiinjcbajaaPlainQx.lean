/- Composing: where hops lead to there are triples (no program in sight). -/
import Derived.Test.YthcfkiinjcbajaaJ16b
namespace Go.Proofs.Ythcfkiinjcbajaa.Pl
set_option linter.unusedVariables false
set_option linter.unusedSimpArgs false
/-- Where a hop leads to there is such a triple. -/
theorem tr_iff {a b : Mc} {t : Tr} : trB a b t = true ↔ (0 ≤ t.1 ∧ t.1 < (a.2.length : Int)) ∧ (0 ≤ t.2.1 ∧ t.2.1 < (b.2.length : Int)) ∧ 0 ≤ t.2.2 ∧ t.2.2 ≤ 2 := by
  simp only [trB, inB, Bool.and_eq_true, decide_eq_true_eq]
  omega
theorem right_toT {m : Mc} (h : faultM m = 0) {q : Nat} (hq : q < m.2.length) : ∀ x ∈ (el m.2 q).2, 0 ≤ x.2.2.2 ∧ x.2.2.2 < (m.2.length : Int) := fun x hx => by
  have h3 := (right_parts h).2 (el m.2 q) (el_mem hq)
  simp only [stB, Bool.and_eq_true, List.all_eq_true] at h3
  have h4 := h3.2 x hx
  simp only [arcB, inB, Bool.and_eq_true, decide_eq_true_eq] at h4
  omega
theorem exp_tr {a b : Mc} (fa : faultM a = 0) (fb : faultM b = 0) {t : Tr} (ht : trB a b t = true) : ∀ h ∈ expT a b t, trB a b h.2.2.2 = true := by
  intro h hh
  obtain ⟨⟨h1, h2⟩, ⟨h3, h4⟩, h5, h6⟩ := tr_iff.1 ht
  have ra := right_toT fa (q := t.1.toNat) (by omega)
  have rb := right_toT fb (q := t.2.1.toNat) (by omega)
  unfold expT at hh
  rcases mem_expL.1 hh with ⟨x, hx, y, hy, _, rfl⟩ | ⟨x, hx, _, _, rfl⟩ | ⟨y, hy, _, _, rfl⟩
  · have := ra x hx
    have := rb y hy
    rw [tr_iff]; simp only [hopM]; omega
  · have := ra x hx
    rw [tr_iff]; simp only [hopL]; omega
  · have := rb y hy
    rw [tr_iff]; simp only [hopR]; omega
theorem expE_tr {a b : Mc} (fa : faultM a = 0) (fb : faultM b = 0) {t : Tr} (ht : trB a b t = true) : expE a b t = if expO a b t = true then 4 else 0 := by
  unfold expE
  rw [if_neg (fun h => h fa), if_neg (fun h => h fb), if_neg (by rw [ht]; simp)]
end Go.Proofs.Ythcfkiinjcbajaa.Pl
