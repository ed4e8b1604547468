/- What is wrong with words, one behind the other (no program in sight). -/
import Derived.Test.YtibafdehgmalgabPlainWn
namespace Go.Proofs.Ytibafdehgmalgab.Pl
set_option linter.unusedVariables false
set_option linter.unusedSimpArgs false
/-- P12.1: the first word that is refused. -/
def wdsE : List (List Int) → Int
  | [] => 0
  | x :: r => if wrdE x ≠ 0 then wrdE x else wdsE r
theorem wds_one (x : List Int) : wdsE [x] = wrdE x := by
  unfold wdsE wdsE
  split
  · rfl
  · rename_i h; simp at h; exact h.symm
theorem wds_two (x y : List Int) : wdsE [x, y] = croE x y := by
  unfold wdsE croE
  rw [wds_one]
theorem wds_at : ∀ {ws : List (List Int)} {k : Nat}, k < ws.length → (∀ j, j < k → wrdE (el ws j) = 0) → wrdE (el ws k) ≠ 0 → wdsE ws = wrdE (el ws k)
  | [], k, h, _, _ => absurd h (by simp)
  | x :: r, 0, _, _, h => by rw [el_zero] at h ⊢; unfold wdsE; rw [if_pos h]
  | x :: r, k + 1, hk, hz, h => by
    have h0 := hz 0 (by omega)
    rw [el_zero] at h0
    rw [el_succ] at h ⊢
    unfold wdsE
    rw [if_neg (by simp [h0])]
    exact wds_at (by simpa using hk) (fun j hj => by have := hz (j + 1) (by omega); rwa [el_succ] at this) h
theorem wds_all : ∀ {ws : List (List Int)}, (∀ j, j < ws.length → wrdE (el ws j) = 0) → wdsE ws = 0
  | [], _ => rfl
  | x :: r, h => by
    have h0 := h 0 (by simp)
    rw [el_zero] at h0
    unfold wdsE
    rw [if_neg (by simp [h0])]
    exact wds_all (fun j hj => by have := h (j + 1) (by simpa using hj); rwa [el_succ] at this)
def labsB (l : List Int) : Bool := l.all (fun b => inB b 1 1000)
theorem wrd_labs {l : List Int} (h : ¬ 12 < l.length) : wrdE l = if labsB l = true then 0 else 2 := by
  unfold wrdE labsB
  rw [if_neg h]
end Go.Proofs.Ytibafdehgmalgab.Pl
