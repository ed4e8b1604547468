/- Changes of labels under their keys (no program in sight). -/
import Derived.Test.YtfffelgmgghldaaPlainCh
import Derived.WalkKit
import Derived.Maps.Views
namespace Go.Proofs.Ytfffelgmgghldaa.Pl
open Go Go.Maps
set_option linter.unusedVariables false
set_option linter.unusedSimpArgs false
def chK (l : List Ch) (k : Nat) : Lit := .int .i64 (el l k).1
def chV (l : List Ch) (k : Nat) : DataW Unit := .lit (.int .i64 (el l k).2)
/-- The first k changes, a later one in place of an elder one. -/
def chM (l : List Ch) : Nat → DataW Unit
  | 0 => .map []
  | k + 1 => (chM l k).put (chK l k) (chV l k)
theorem chK_key (l : List Ch) (k : Nat) : WideAt.IsKeyLit (chK l k) := trivial
theorem chM_tidy (l : List Ch) : ∀ k, Tidy (chM l k)
  | 0 => tidy_empty
  | k + 1 => (chM_tidy l k).put (chK_key l k) _
theorem chM_look (l : List Ch) (x : Int) : ∀ k,
    (has (chM l k) (.int .i64 x) = false ∧ ∀ j, j < k → (el l j).1 ≠ x) ∨ (has (chM l k) (.int .i64 x) = true ∧ ∃ j, j < k ∧ (el l j).1 = x ∧ ∀ z, (chM l k).atKey (.int .i64 x) z = chV l j)
  | 0 => .inl ⟨rfl, fun j h => absurd h (Nat.not_lt_zero _)⟩
  | k + 1 => by
    by_cases he : (el l k).1 = x
    · subst he
      exact .inr ⟨has_put_same (chM_tidy l k).isMap (chK_key l k) _, k, Nat.lt_succ_self _, rfl, fun z => atKey_put_same (chM_tidy l k).isMap (chK_key l k) _ _⟩
    · have he' : Lit.int .i64 x ≠ chK l k := fun e => he (Lit.int.inj e).2.symm
      rcases chM_look l x k with ⟨h1, h2⟩ | ⟨h1, j, h2, h3, h4⟩
      · refine .inl ⟨(has_put_other he' _).trans h1, fun j hj => ?_⟩
        rcases Nat.lt_succ_iff_lt_or_eq.1 hj with h | h
        · exact h2 j h
        · subst h; exact he
      · exact .inr ⟨(has_put_other he' _).trans h1, j, by omega, h3, fun z => (atKey_put_other he' _ _).trans (h4 z)⟩
theorem chM_size (l : List Ch) : ∀ k,
    size (chM l k) ≤ k ∧ ((∀ i j, j < i → i < k → (el l i).1 ≠ (el l j).1) → size (chM l k) = k) ∧ ((∃ i j, j < i ∧ i < k ∧ (el l i).1 = (el l j).1) → size (chM l k) < k)
  | 0 => ⟨Nat.le_refl _, fun _ => rfl, fun ⟨i, j, _, h, _⟩ => absurd h (Nat.not_lt_zero _)⟩
  | k + 1 => by
    obtain ⟨h1, h2, h3⟩ := chM_size l k
    have hs : size (chM l (k + 1)) = if has (chM l k) (chK l k) then size (chM l k) else size (chM l k) + 1 := size_put (chM_tidy l k) _
    rcases chM_look l (el l k).1 k with ⟨h4, h5⟩ | ⟨h4, j, h5, h6, _⟩
    · rw [chK, h4] at hs
      simp at hs
      refine ⟨by omega, fun h => ?_, fun ⟨i, j, hj, hi, e⟩ => ?_⟩
      · rw [hs, h2 (fun i j hj hi => h i j hj (by omega))]
      · rcases Nat.lt_succ_iff_lt_or_eq.1 hi with h | h
        · have := h3 ⟨i, j, hj, h, e⟩; omega
        · subst h; exact absurd e.symm (h5 j hj)
    · rw [chK, h4] at hs
      simp at hs
      refine ⟨by omega, fun h => absurd h6.symm (h k j h5 (Nat.lt_succ_self _)), fun _ => by omega⟩
/-- Two changes share what they come from just where fewer keys are left. -/
theorem chM_twice (l : List Ch) : size (chM l l.length) < l.length ↔ twcB l = true := by
  obtain ⟨h1, h2, h3⟩ := chM_size l l.length
  constructor
  · intro h
    rcases Bool.eq_false_or_eq_true (twcB l) with g | g
    · exact g
    · have := h2 (fun i j hj hi e => by
        have := (twc_iff l).2 ⟨i, hi, j, hj, e⟩
        rw [g] at this; cases this)
      omega
  · intro h
    obtain ⟨i, hi, j, hj, e⟩ := (twc_iff l).1 h
    exact h3 ⟨i, j, hj, hi, e⟩
theorem once_of {l : List Ch} (h : twcB l = false) {i j : Nat} (hi : i < l.length) (hj : j < l.length) (e : (el l i).1 = (el l j).1) : i = j := by
  rcases Nat.lt_trichotomy i j with g | g | g
  · rw [(twc_iff l).2 ⟨j, hj, i, g, e.symm⟩] at h; cases h
  · exact g
  · rw [(twc_iff l).2 ⟨i, hi, j, g, e⟩] at h; cases h
theorem chg_at {l : List Ch} (h : twcB l = false) {i : Nat} (hi : i < l.length) : chgF l (el l i).1 = (el l i).2 :=
  chg_hit hi (fun j hj e => by have := once_of h (show j < l.length by omega) hi e; omega) rfl
theorem flt_small {l : List Ch} (h : ¬ 50 < l.length) (ha : ∀ j, j < l.length → chB (el l j) = true) : fltC l = if twcB l = true then 10 else 0 := by
  unfold fltC
  rw [if_neg h, if_neg (all_yes ha)]
theorem flt_zero {l : List Ch} (h : fltC l = 0) : ¬ 50 < l.length ∧ (∀ j, j < l.length → chB (el l j) = true) ∧ twcB l = false := by
  have h50 := flt_len h
  have ha : ∀ j, j < l.length → chB (el l j) = true := fun j hj => by
    rcases Bool.eq_false_or_eq_true (chB (el l j)) with g | g
    · exact g
    · rw [flt_range (by omega) hj g] at h; cases h
  refine ⟨by omega, ha, ?_⟩
  rw [flt_small (by omega) ha] at h
  rcases Bool.eq_false_or_eq_true (twcB l) with g | g
  · rw [if_pos g] at h; cases h
  · exact g
end Go.Proofs.Ytfffelgmgghldaa.Pl
