/- States of the call's own: one of them given other arcs. -/
import Derived.Test.YtfekmlblldhieaaGreatDoorMcC
import Derived.Test.YtfekmlblldhieaaGreatDoorJ17d
namespace Go.Proofs.YtfekmlblldhieaaGreatDoor.Wt
open Go.ChangeShapes Go.WideShapes Go.ChangeAt Go.RowKit
open Go.Proofs.YtfekmlblldhieaaGreatDoor.Pl
set_option linter.unusedVariables false
theorem flat_set {vs : List (Int × Value)} {q : Nat} (hq : q < vs.length) (va : Value) : (vs.flatMap encS).set (q * 2 + 1) va = (vs.set q ((el vs q).1, va)).flatMap encS := by
  have hl : (vs.flatMap encS).length = vs.length * 2 := flat_length encS_len vs
  apply List.ext_getElem?
  intro t
  by_cases ht : t < vs.length * 2
  · have he : t / 2 * 2 + t % 2 = t := by omega
    have h1 := flat_at encS_len vs (t / 2) (by omega) (t % 2) (by omega)
    have h2 := flat_at encS_len (vs.set q ((el vs q).1, va)) (t / 2) (by simp; omega) (t % 2) (by omega)
    rw [he] at h1 h2
    rw [h2, List.getElem?_set, Pl.el_set (by omega)]
    by_cases hq2 : q = t / 2
    · rw [if_pos hq2]
      have h01 : t = q * 2 ∨ t = q * 2 + 1 := by omega
      rcases h01 with h | h
      · have e0 : t % 2 = 0 := by omega
        rw [if_neg (by omega), h1, ← hq2, e0]; rfl
      · have e0 : t % 2 = 1 := by omega
        rw [if_pos h.symm, if_pos (by omega), e0]; rfl
    · rw [if_neg hq2, if_neg (by omega), h1]
  · rw [List.getElem?_eq_none (by rw [List.length_set, hl]; omega), List.getElem?_eq_none (by rw [flat_length encS_len, List.length_set]; omega)]
theorem other_block {w : World} {base : Nat} {va v : Value} {n k g : Nat} {xs ys : List Value} (h1 : w.ownsRow base 33 4 va n xs) (h2 : w.ownsRow base 31 2 v k ys) (hv : v.ownBlock = some g) : va.ownBlock ≠ some g := by
  rcases own_apart h1 h2 (by decide) with h | h
  · rw [h]; simp
  · rw [← hv]; exact h
theorem OwnSts.put {w : World} {base g cap q : Nat} {va : Value} {l : List St} {s : List Ar} (h : OwnSts w base (.slice (some ⟨g, 0, none⟩) l.length cap) l) (hq : q < l.length) (hva : w.ownsRow base 33 4 va s.length (s.flatMap encA)) :
    OwnSts (w.setCell ⟨g, q * 2 + 1, none⟩ va) base (.slice (some ⟨g, 0, none⟩) l.length cap) (l.set q ((el l q).1, s)) := by
  obtain ⟨vs, h1, h2, h3⟩ := h
  have h1' := h1
  rw [h2] at h1
  have hs := (h1.stored (q * 2 + 1) va).1
  rw [flat_set (by omega)] at hs
  refine ⟨vs.set q ((el vs q).1, va), by rw [List.length_set, h2]; exact hs, by simp [h2], fun j hj => ?_⟩
  have hj' : j < l.length := by simpa using hj
  rw [Pl.el_set (by omega), Pl.el_set hj']
  by_cases e : q = j
  · subst e
    rw [if_pos rfl, if_pos rfl]
    exact ⟨(h3 q hq).1, ownsRow_setCell_other (a := ⟨g, q * 2 + 1, none⟩) hva (other_block (g := g) hva h1' rfl) va⟩
  · rw [if_neg e, if_neg e]
    exact ⟨(h3 j hj').1, ownsRow_setCell_other (a := ⟨g, q * 2 + 1, none⟩) (h3 j hj').2 (other_block (g := g) (h3 j hj').2 h1' rfl) va⟩
/-- A row that the state had keeps what it held. -/
theorem OwnSts.row {w : World} {base : Nat} {v : Value} {l : List St} (h : OwnSts w base v l) : ∃ vs : List (Int × Value), vs.length = l.length ∧ w.ownsRow base 31 2 v vs.length (vs.flatMap encS) ∧ ∀ j, j < l.length → (el vs j).1 = (el l j).1 ∧ w.ownsRow base 33 4 (el vs j).2 (el l j).2.length ((el l j).2.flatMap encA) := by
  obtain ⟨vs, h1, h2, h3⟩ := h
  exact ⟨vs, h2, h1, h3⟩
end Go.Proofs.YtfekmlblldhieaaGreatDoor.Wt
