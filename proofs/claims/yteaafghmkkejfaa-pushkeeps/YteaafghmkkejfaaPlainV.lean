/- Plain facts on what machines are like (no program in sight). -/
import Derived.Test.YteaafghmkkejfaaPlainK
namespace Go.Proofs.Yteaafghmkkejfaa.Pl
/-- P4.4: does a stand ahead of b? -/
def aheadB (a b : Ar) : Bool := if a.1 = b.1 then (if a.2.1 = b.2.1 then (if a.2.2.2 = b.2.2.2 then decide (a.2.2.1 < b.2.2.1) else decide (a.2.2.2 < b.2.2.2)) else decide (a.2.1 < b.2.1)) else decide (a.1 < b.1)
theorem aheadB_iff {a b : Ar} : aheadB a b = true ↔ (a.1 < b.1 ∨ a.1 = b.1 ∧ (a.2.1 < b.2.1 ∨ a.2.1 = b.2.1 ∧ (a.2.2.2 < b.2.2.2 ∨ a.2.2.2 = b.2.2.2 ∧ a.2.2.1 < b.2.2.1))) := by
  unfold aheadB
  repeat' split
  all_goals (simp only [decide_eq_true_eq]; omega)
theorem aheadB_false {a b : Ar} : aheadB a b = false ↔ ¬ (a.1 < b.1 ∨ a.1 = b.1 ∧ (a.2.1 < b.2.1 ∨ a.2.1 = b.2.1 ∧ (a.2.2.2 < b.2.2.2 ∨ a.2.2.2 = b.2.2.2 ∧ a.2.2.1 < b.2.2.1))) := by
  rw [← aheadB_iff]; simp
theorem ahead_trans {a b c : Ar} (h1 : aheadB b a = false) (h2 : aheadB c b = false) : aheadB c a = false := by
  rw [aheadB_false] at *
  omega
def cmpI (a b : Int) : Int := if a < b then -1 else if b < a then 1 else 0
def orI (c0 c1 c2 c3 : Int) : Int := if c0 = 0 then (if c1 = 0 then (if c2 = 0 then c3 else c2) else c1) else c0
theorem orI_neg (a b : Ar) : decide (orI (cmpI a.1 b.1) (cmpI a.2.1 b.2.1) (cmpI a.2.2.2 b.2.2.2) (cmpI a.2.2.1 b.2.2.1) < 0) = aheadB a b := by
  rw [Bool.eq_iff_iff, aheadB_iff, decide_eq_true_eq]
  unfold orI cmpI
  repeat' split
  all_goals omega
def sortB (l : List Ar) : Bool := (List.range (l.length - 1)).all fun i => !aheadB (el l (i + 1)) (el l i)
def ordB (l : List Ar) : Bool := (List.range l.length).all fun k => (List.range k).all fun j => !aheadB (el l k) (el l j)
theorem sortB_iff {l : List Ar} : sortB l = true ↔ ∀ i, i + 1 < l.length → aheadB (el l (i + 1)) (el l i) = false := by
  simp only [sortB, List.all_eq_true, List.mem_range, Bool.not_eq_true']
  exact ⟨fun h i hi => h i (by omega), fun h i hi => h i (by omega)⟩
theorem ordB_iff {l : List Ar} : ordB l = true ↔ ∀ k, k < l.length → ∀ j, j < k → aheadB (el l k) (el l j) = false := by
  simp only [ordB, List.all_eq_true, List.mem_range, Bool.not_eq_true']
theorem ordB_sortB (l : List Ar) : ordB l = sortB l := by
  rw [Bool.eq_iff_iff, ordB_iff, sortB_iff]
  constructor
  · intro h i hi
    exact h (i + 1) hi i (by omega)
  · intro h k
    induction k with
    | zero => intro _ j hj; omega
    | succ k ih =>
      intro hk j hj
      by_cases e : j = k
      · subst e; exact h j hk
      · exact ahead_trans (ih (by omega) j (by omega)) (h k hk)
def pairB (a b : Ar) : Bool := decide (a.1 = b.1) && decide (a.2.1 = b.2.1)
def onceB (l : List Ar) : Bool := (List.range l.length).all fun k => (List.range k).all fun j => !pairB (el l k) (el l j)
theorem onceB_iff {l : List Ar} : onceB l = true ↔ ∀ k, k < l.length → ∀ j, j < k → pairB (el l k) (el l j) = false := by
  simp only [onceB, List.all_eq_true, List.mem_range, Bool.not_eq_true']
theorem pairB_iff {a b : Ar} : pairB a b = true ↔ a.1 = b.1 ∧ a.2.1 = b.2.1 := by simp [pairB]
theorem ret_int3 {k : IntKind} {a b : Int} (h : a = b) : Ending.returned (.int k a) = .returned (.int k b) := by rw [h]
end Go.Proofs.Yteaafghmkkejfaa.Pl
