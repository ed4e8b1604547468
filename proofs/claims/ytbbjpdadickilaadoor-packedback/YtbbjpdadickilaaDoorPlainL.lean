/- Plain facts on texts that are cut at every byte of one kind. -/
import Derived.Test.YtbbjpdadickilaaDoorPlainD
namespace Go.Proofs.YtbbjpdadickilaaDoor.Pl
open Go
/-- What is cut off, and where the piece under way begins, when k bytes have been looked at. -/
def cutTo (c : UInt8) (l : List UInt8) : Nat → List (List UInt8) × Nat
  | 0 => ([], 0)
  | k + 1 => if l[k]?.getD 0 = c then ((cutTo c l k).1 ++ [(l.drop (cutTo c l k).2).take (k - (cutTo c l k).2)], k + 1) else cutTo c l k
def joinC (c : UInt8) (o : List (List UInt8)) : List UInt8 := o.flatMap fun x => x ++ [c]
theorem cutTo_le (c : UInt8) (l : List UInt8) : ∀ k, (cutTo c l k).2 ≤ k
  | 0 => Nat.le_refl _
  | k + 1 => by
    unfold cutTo
    split
    · exact Nat.le_refl _
    · have := cutTo_le c l k; omega
theorem cutTo_len (c : UInt8) (l : List UInt8) : ∀ k, (cutTo c l k).1.length ≤ k
  | 0 => Nat.le_refl _
  | k + 1 => by
    unfold cutTo
    have := cutTo_len c l k
    split
    · simp; omega
    · omega
theorem cutTo_join (c : UInt8) (l : List UInt8) : ∀ k, k ≤ l.length →
    l.take k = joinC c (cutTo c l k).1 ++ (l.drop (cutTo c l k).2).take (k - (cutTo c l k).2) ∧ (∀ x ∈ (cutTo c l k).1, ∀ b ∈ x, b ≠ c) ∧ ∀ b ∈ (l.drop (cutTo c l k).2).take (k - (cutTo c l k).2), b ≠ c
  | 0, _ => ⟨by simp [cutTo, joinC], by simp [cutTo], by simp [cutTo]⟩
  | k + 1, h => by
    obtain ⟨h1, h2, h3⟩ := cutTo_join c l k (by omega)
    have hle := cutTo_le c l k
    have hk : k < l.length := by omega
    have hg : l[k]?.getD 0 = l[k] := by simp [List.getElem?_eq_getElem hk]
    have ht : l.take (k + 1) = l.take k ++ [l[k]] := List.take_succ_eq_append_getElem hk
    unfold cutTo
    split
    · rename_i e
      rw [hg] at e
      refine ⟨?_, ?_, ?_⟩
      · rw [ht, h1, e]; simp [joinC]
      · intro x hx
        rcases List.mem_append.1 hx with g | g
        · exact h2 x g
        · simp only [List.mem_singleton] at g; subst g; exact h3
      · simp
    · rename_i e
      rw [hg] at e
      have hd : (l.drop (cutTo c l k).2).take (k + 1 - (cutTo c l k).2) = (l.drop (cutTo c l k).2).take (k - (cutTo c l k).2) ++ [l[k]] := by
        have e1 : k + 1 - (cutTo c l k).2 = (k - (cutTo c l k).2) + 1 := by omega
        rw [e1, List.take_succ_eq_append_getElem (by rw [List.length_drop]; omega), List.getElem_drop]
        congr 3
        omega
      refine ⟨?_, h2, ?_⟩
      · rw [hd, ht, h1]; simp
      · rw [hd]
        intro b hb
        rcases List.mem_append.1 hb with g | g
        · exact h3 b g
        · simp only [List.mem_singleton] at g; subst g; exact e
theorem join_unique (c : UInt8) : ∀ (o p : List (List UInt8)) (r q : List UInt8), (∀ x ∈ o, ∀ b ∈ x, b ≠ c) → (∀ x ∈ p, ∀ b ∈ x, b ≠ c) → (∀ b ∈ r, b ≠ c) → (∀ b ∈ q, b ≠ c) →
    joinC c o ++ r = joinC c p ++ q → o = p ∧ r = q
  | [], [], r, q, _, _, _, _, h => ⟨rfl, by simpa [joinC] using h⟩
  | [], y :: p, r, q, _, _, hr, _, h => by
    exfalso
    have : c ∈ r := by
      have e : r = joinC c (y :: p) ++ q := by simpa [joinC] using h
      rw [e]; simp [joinC]
    exact hr c this rfl
  | x :: o, [], r, q, _, _, _, hq, h => by
    exfalso
    have : c ∈ q := by
      have e : joinC c (x :: o) ++ r = q := by simpa [joinC] using h
      rw [← e]; simp [joinC]
    exact hq c this rfl
  | x :: o, y :: p, r, q, ho, hp, hr, hq, h => by
    have e : x ++ c :: (joinC c o ++ r) = y ++ c :: (joinC c p ++ q) := by simpa [joinC] using h
    obtain ⟨a1, a2⟩ := bef_at c x (joinC c o ++ r) (ho x (by simp))
    obtain ⟨b1, b2⟩ := bef_at c y (joinC c p ++ q) (hp y (by simp))
    rw [e] at a1 a2
    have exy : x = y := a1.symm.trans b1
    have err := a2.symm.trans b2
    obtain ⟨h1, h2⟩ := join_unique c o p r q (fun z hz => ho z (by simp [hz])) (fun z hz => hp z (by simp [hz])) hr hq err
    exact ⟨by rw [exy, h1], h2⟩
def cutEnd (c : UInt8) (l : List UInt8) : List UInt8 := l.drop (cutTo c l l.length).2
theorem cut_all (c : UInt8) (l : List UInt8) : l = joinC c (cutTo c l l.length).1 ++ cutEnd c l ∧ (∀ x ∈ (cutTo c l l.length).1, ∀ b ∈ x, b ≠ c) ∧ ∀ b ∈ cutEnd c l, b ≠ c := by
  obtain ⟨h1, h2, h3⟩ := cutTo_join c l l.length (Nat.le_refl _)
  have e : (l.drop (cutTo c l l.length).2).take (l.length - (cutTo c l l.length).2) = cutEnd c l := by
    unfold cutEnd
    exact List.take_of_length_le (by rw [List.length_drop]; exact Nat.le_refl _)
  rw [e] at h1 h3
  rw [List.take_length] at h1
  exact ⟨h1, h2, h3⟩
end Go.Proofs.YtbbjpdadickilaaDoor.Pl
