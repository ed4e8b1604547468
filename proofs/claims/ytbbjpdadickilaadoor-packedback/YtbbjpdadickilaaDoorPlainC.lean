/- Plain facts on texts that are cut at a byte, and on their lines. -/
import Derived.Test.YtbbjpdadickilaaDoorPlainH
import Derived.Lib.Bytealg
namespace Go.Proofs.YtbbjpdadickilaaDoor.Pl
open Go
def bef (c : UInt8) (l : List UInt8) : List UInt8 := l.takeWhile (· != c)
def aft (c : UInt8) (l : List UInt8) : List UInt8 := (l.dropWhile (· != c)).drop 1
def fnd (c : UInt8) (l : List UInt8) : Bool := l.any (· == c)
theorem idx_cases (c : UInt8) : ∀ l : List UInt8, (fnd c l = false ∧ Lib.indexByte l c = -1 ∧ bef c l = l ∧ aft c l = []) ∨ (fnd c l = true ∧ ∃ k : Nat, Lib.indexByte l c = (k : Int) ∧ k < l.length ∧ bef c l = l.take k ∧ aft c l = l.drop (k + 1))
  | [] => .inl ⟨rfl, rfl, rfl, rfl⟩
  | b :: l => by
    rcases bool_cases (b == c) with h | h
    · right
      refine ⟨by simp [fnd, h], 0, by simp [Lib.indexByte, h], by simp, ?_, ?_⟩
      · simp [bef, List.takeWhile, bne, h]
      · simp [aft, List.dropWhile, bne, h]
    · rcases idx_cases c l with ⟨h1, h2, h3, h4⟩ | ⟨h1, k, h2, h3, h4, h5⟩
      · left
        refine ⟨by simp [fnd, h] at h1 ⊢; exact h1, by simp [Lib.indexByte, h, h2], ?_, ?_⟩
        · unfold bef at h3 ⊢; simp [List.takeWhile, bne, h]; simpa [bne] using h3
        · unfold aft at h4 ⊢; simp [List.dropWhile, bne, h]; simpa [bne] using h4
      · right
        refine ⟨by simp [fnd, h] at h1 ⊢; exact h1, k + 1, ?_, by simp; omega, ?_, ?_⟩
        · have hk : ((k : Int) == -1) = false := beq_eq_false_iff_ne.2 (by omega)
          simp [Lib.indexByte, h, h2, hk]
        · unfold bef at h4 ⊢; simp [List.takeWhile, bne, h]; simpa [bne] using h4
        · unfold aft at h5 ⊢; simp [List.dropWhile, bne, h]; simpa [bne] using h5
theorem aft_lt (c : UInt8) (l : List UInt8) (h : l ≠ []) : (aft c l).length < l.length := by
  rcases idx_cases c l with ⟨_, _, _, h4⟩ | ⟨_, k, _, h3, _, h5⟩
  · rw [h4]; exact List.length_pos_iff.2 h
  · rw [h5, List.length_drop]; omega
theorem bef_le (c : UInt8) (l : List UInt8) : (bef c l).length ≤ l.length := by
  rcases idx_cases c l with ⟨_, _, h3, _⟩ | ⟨_, k, _, _, h4, _⟩
  · rw [h3]; exact Nat.le_refl _
  · rw [h4, List.length_take]; omega
/-- The lines of a text, as the program cuts them: what stands behind the last line feed is one too, unless it is empty. -/
def linesF : Nat → List UInt8 → List (List UInt8)
  | 0, _ => []
  | f + 1, l => if l = [] then [] else bef 10 l :: linesF f (aft 10 l)
theorem linesF_more : ∀ (f g : Nat) (l : List UInt8), l.length ≤ f → f ≤ g → linesF f l = linesF g l
  | 0, g, l, h, _ => by
    obtain rfl : l = [] := List.eq_nil_of_length_eq_zero (by omega)
    cases g <;> simp [linesF]
  | f + 1, 0, l, h, hg => absurd hg (by omega)
  | f + 1, g + 1, l, h, hg => by
    by_cases hl : l = []
    · simp [linesF, hl]
    · have := aft_lt 10 l hl
      simp only [linesF, if_neg hl]
      rw [linesF_more f g (aft 10 l) (by omega) (by omega)]
def linesL (l : List UInt8) : List (List UInt8) := linesF l.length l
theorem linesL_nil : linesL [] = [] := rfl
theorem linesL_cons {l : List UInt8} (h : l ≠ []) : linesL l = bef 10 l :: linesL (aft 10 l) := by
  have hl := aft_lt 10 l h
  unfold linesL
  obtain ⟨n, hn⟩ : ∃ n, l.length = n + 1 := ⟨l.length - 1, by have := List.length_pos_iff.2 h; omega⟩
  rw [hn]
  simp only [linesF, if_neg h]
  rw [linesF_more (aft 10 l).length n (aft 10 l) (Nat.le_refl _) (by omega)]
theorem linesL_length (l : List UInt8) : (linesL l).length ≤ l.length := by
  have key : ∀ n (l : List UInt8), l.length ≤ n → (linesL l).length ≤ l.length := by
    intro n
    induction n with
    | zero => intro l h; obtain rfl : l = [] := List.eq_nil_of_length_eq_zero (by omega); simp [linesL_nil]
    | succ n ih =>
      intro l h
      by_cases hl : l = []
      · subst hl; simp [linesL_nil]
      · rw [linesL_cons hl, List.length_cons]
        have h1 := aft_lt 10 l hl
        have h2 := ih (aft 10 l) (by omega)
        omega
  exact key _ l (Nat.le_refl _)
end Go.Proofs.YtbbjpdadickilaaDoor.Pl
