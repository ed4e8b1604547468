/- The program: how many arcs the longest way to each state has. -/
import Derived.Test.YtfffelgmgghldabOw
namespace Go.Proofs.Ytfffelgmgghldab.Pl
/-- A list of numbers of arcs. -/
def LenL (n : Nat) (f : Nat → Int) (ns : List Int) : Prop := ns.length = n ∧ ∀ j, j < n → el ns j = f j
theorem LenL.congr {n : Nat} {f g : Nat → Int} {ns : List Int} (h : LenL n f ns) (e : ∀ j, j < n → g j = f j) : LenL n g ns := ⟨h.1, fun j hj => by rw [h.2 j hj, e j hj]⟩
theorem LenL.set {n : Nat} {f : Nat → Int} {ns : List Int} (h : LenL n f ns) {t : Nat} (ht : t < n) (x : Int) : LenL n (updD f t x) (ns.set t x) := by
  refine ⟨by rw [List.length_set]; exact h.1, fun j hj => ?_⟩
  rw [el_setZ (by rw [h.1]; exact ht)]
  unfold updD
  split
  · rfl
  · exact h.2 j hj
/-- The first q ones are set. -/
def NoneL (n q : Nat) (ns : List Int) : Prop := ns.length = n ∧ ∀ j, j < q → el ns j = -1
theorem NoneL.start (n : Nat) : NoneL n 0 (List.replicate n 0) := ⟨by simp, fun j hj => absurd hj (Nat.not_lt_zero _)⟩
theorem NoneL.set {n q : Nat} {ns : List Int} (h : NoneL n q ns) (hq : q < n) : NoneL n (q + 1) (ns.set q (-1)) := by
  refine ⟨by rw [List.length_set]; exact h.1, fun j hj => ?_⟩
  rw [el_setZ (by rw [h.1]; exact hq)]
  split
  · rfl
  · exact h.2 j (by omega)
theorem NoneL.lens {n : Nat} {ns : List Int} (h : NoneL n n ns) : LenL n (fun _ => -1) ns := ⟨h.1, h.2⟩
end Go.Proofs.Ytfffelgmgghldab.Pl
namespace Go.Proofs.Ytfffelgmgghldab.Wt
open Go.ChangeShapes Go.WideShapes Go.ChangeAt Go.RowKit
open Go.Proofs.Ytfffelgmgghldab.Pl
set_option linter.unusedVariables false
set_option linter.unusedSimpArgs false
end Go.Proofs.Ytfffelgmgghldab.Wt
