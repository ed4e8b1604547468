/- What is had along some arc, marked arc by arc (no program in sight). -/
import Derived.Test.YtibafdehgmalgaaPlainDf
import Derived.Test.YtibafdehgmalgaaPlainX
namespace Go.Proofs.Ytibafdehgmalgaa.Pl
set_option linter.unusedVariables false
set_option linter.unusedSimpArgs false
/-- Behind k states and i arcs of the next one. -/
def HadQ (l : List St) (vs : List Int) (s k i : Nat) (hs : List Bool) : Prop := hs.length = l.length ∧ el hs s = true ∧ ∀ q i', (q < k ∨ (q = k ∧ i' < i)) → q < l.length → i' < (el l q).2.length → bothI (el vs q) (el (el l q).2 i').2.2.1 ≠ 1000000001 → el vs (el (el l q).2 i').2.2.2.toNat = bothI (el vs q) (el (el l q).2 i').2.2.1 → el hs (el (el l q).2 i').2.2.2.toNat = true
theorem had_start {l : List St} (vs : List Int) {s : Nat} (hs : s < l.length) : HadQ l vs s 0 0 ((List.replicate l.length false).set s true) := by
  refine ⟨by simp, ?_, fun q i' h => by omega⟩
  rw [el_set (by simpa using hs), if_pos rfl]
theorem had_skip {l : List St} {vs : List Int} {s k i : Nat} {hs : List Bool} (h : HadQ l vs s k i hs) (hn : bothI (el vs k) (el (el l k).2 i).2.2.1 = 1000000001 ∨ el vs (el (el l k).2 i).2.2.2.toNat ≠ bothI (el vs k) (el (el l k).2 i).2.2.1) : HadQ l vs s k (i + 1) hs := by
  refine ⟨h.1, h.2.1, fun q i' hq h1 h2 h3 h4 => ?_⟩
  by_cases e : q = k ∧ i' = i
  · obtain ⟨rfl, rfl⟩ := e
    rcases hn with hn | hn
    · exact absurd hn h3
    · exact absurd h4 hn
  · exact h.2.2 q i' (by omega) h1 h2 h3 h4
theorem had_set {l : List St} {vs : List Int} {s k i : Nat} {hs : List Bool} (h : HadQ l vs s k i hs) {t : Nat} (ht : t < l.length) (he : (el (el l k).2 i).2.2.2.toNat = t) (hto : ∀ q, q < l.length → ∀ i', i' < (el l q).2.length → (el (el l q).2 i').2.2.2.toNat < l.length) (hsl : s < l.length) : HadQ l vs s k (i + 1) (hs.set t true) := by
  refine ⟨by rw [List.length_set]; exact h.1, ?_, fun q i' hq h1 h2 h3 h4 => ?_⟩
  · rw [el_set (by rw [h.1]; exact hsl)]
    split
    · rfl
    · exact h.2.1
  · rw [el_set (by rw [h.1]; exact hto q h1 i' h2)]
    split
    · rfl
    · rename_i hne
      by_cases e : q = k ∧ i' = i
      · obtain ⟨rfl, rfl⟩ := e
        exact absurd he.symm hne
      · exact h.2.2 q i' (by omega) h1 h2 h3 h4
theorem had_next {l : List St} {vs : List Int} {s k : Nat} {hs : List Bool} (h : HadQ l vs s k (el l k).2.length hs) : HadQ l vs s (k + 1) 0 hs := by
  refine ⟨h.1, h.2.1, fun q i' hq h1 h2 h3 h4 => ?_⟩
  rcases Nat.lt_or_ge q k with g | g
  · exact h.2.2 q i' (.inl g) h1 h2 h3 h4
  · obtain rfl : q = k := by omega
    exact h.2.2 q i' (.inr ⟨rfl, h2⟩) h1 h2 h3 h4
theorem had_all {m : Mc} (hr : faultM m = 0) {vs : List Int} (hA : ∀ q, q < m.2.length → CstIs (FarC m.1 m.2 q) (el vs q)) {hs : List Bool} (h : HadQ m.2 vs m.1.toNat m.2.length 0 hs) {j : Nat} (hj : j < m.2.length) (hn : el vs j ≠ 1000000001) : el hs j = true := by
  by_cases hz : j = m.1.toNat
  · rw [hz]; exact h.2.1
  · obtain ⟨q, w, hq, e, h1, h2⟩ := tight_had hr hA hj hz hn
    obtain ⟨a, ha, ht, hw⟩ := e
    obtain ⟨i, hi, rfl⟩ := List.getElem_of_mem ha
    rw [← el_get hi] at ht hw
    have h3 := (right_parts hr).2 (el m.2 q) (el_mem hq)
    simp only [stB, Bool.and_eq_true, List.all_eq_true] at h3
    have h4 := h3.2 _ (el_mem hi)
    simp only [arcB, inB, Bool.and_eq_true, decide_eq_true_eq] at h4
    have h5 : (w : Int) = (el (el m.2 q).2 i).2.2.1 := by omega
    have hne : (w : Int) ≠ 1000000001 := by omega
    have hb : bothI (el vs q) (el (el m.2 q).2 i).2.2.1 = el vs j := by
      unfold bothI
      rw [← h5, if_neg (fun g => g.elim h1 hne), h2]
    have ht' : (el (el m.2 q).2 i).2.2.2.toNat = j := by omega
    have h6 := h.2.2 q i (.inl hq) hq hi (by rw [hb]; exact hn) (by rw [hb, ht'])
    rw [ht'] at h6
    exact h6
end Go.Proofs.Ytibafdehgmalgaa.Pl
