/- Plain facts on weights and lists of weights (no program in sight): which numbers are weights, and the least of a list. -/
import Derived.WalkKit
namespace Go.Proofs.Ytkeeiihaijhdoaa.Pl

def wtB (n : Int) : Bool := decide (n = 1000000001 ∨ (0 ≤ n ∧ n ≤ 1000000000))
theorem wtB_true {n : Int} : wtB n = true ↔ (n = 1000000001 ∨ (0 ≤ n ∧ n ≤ 1000000000)) := by unfold wtB; simp
theorem wtB_false {n : Int} : wtB n = false ↔ ¬ (n = 1000000001 ∨ (0 ≤ n ∧ n ≤ 1000000000)) := by unfold wtB; simp

def allW (l : List Int) : Bool := l.all wtB
def minL (l : List Int) : Int := l.foldl min 1000000001

theorem take_snoc (l : List Int) (k : Nat) (h : k < l.length) : l.take (k + 1) = l.take k ++ [l[k]?.getD 0] := by
  rw [List.take_succ_eq_append_getElem h]; simp [List.getElem?_eq_getElem h]
theorem allW_snoc (l : List Int) (k : Nat) (h : k < l.length) : allW (l.take (k + 1)) = (allW (l.take k) && wtB (l[k]?.getD 0)) := by
  rw [take_snoc l k h]; simp [allW]
theorem minL_snoc (l : List Int) (k : Nat) (h : k < l.length) : minL (l.take (k + 1)) = min (minL (l.take k)) (l[k]?.getD 0) := by
  rw [take_snoc l k h]; simp [minL]
theorem allW_false_of (l : List Int) (k : Nat) (h : k < l.length) (hf : wtB (l[k]?.getD 0) = false) : allW l = false := by
  unfold allW
  rw [List.all_eq_false]
  refine ⟨l[k], List.getElem_mem h, ?_⟩
  simpa [List.getElem?_eq_getElem h] using hf
theorem ite_min (m x : Int) : (if x < m then x else m) = min m x := by
  split <;> omega
theorem ret_bool {a b : Bool} (h : a = b) : Ending.returned (.bool a) = .returned (.bool b) := by rw [h]
theorem ret_int {k : IntKind} {a b : Int} (h : a = b) : Ending.returned (.int k a) = .returned (.int k b) := by rw [h]
theorem bool_cases (b : Bool) : b = true ∨ b = false := by cases b <;> simp
def plusR (a b : Int) : Int × Int := if (wtB a && wtB b) = true then (min a b, 0) else (0, 2)
def timesR (a b : Int) : Int × Int := if (wtB a && wtB b) = true then (if a = 1000000001 ∨ b = 1000000001 then (1000000001, 0) else if 1000000000 < a + b then (0, 4) else (a + b, 0)) else (0, 2)
def overR (a b : Int) : Int × Int := if (wtB a && wtB b) = true then (if b = 1000000001 ∨ a < b then (0, 12) else if a = 1000000001 then (1000000001, 0) else (a - b, 0)) else (0, 2)
theorem and_wt {a b : Int} (h : (wtB a && wtB b) = true) : (a = 1000000001 ∨ (0 ≤ a ∧ a ≤ 1000000000)) ∧ (b = 1000000001 ∨ (0 ≤ b ∧ b ≤ 1000000000)) := by
  rw [Bool.and_eq_true] at h
  exact ⟨wtB_true.1 h.1, wtB_true.1 h.2⟩
theorem minL_two {a b : Int} (h : (wtB a && wtB b) = true) : minL [a, b] = min a b := by
  obtain ⟨h1, h2⟩ := and_wt h
  unfold minL
  simp only [List.foldl]
  omega
theorem ret_two {k l : IntKind} {a b c d : Int} (h : a = c) (g : b = d) : Ending.returned (.tuple #[.int k a, .int l b]) = .returned (.tuple #[.int k c, .int l d]) := by rw [h, g]
theorem ret_pair {k l : IntKind} {a b : Int} {p : Int × Int} (h : p = (a, b)) : Ending.returned (.tuple #[.int k a, .int l b]) = .returned (.tuple #[.int k p.1, .int l p.2]) := by rw [h]
theorem pr {p q r : Int} (h : p = q) : (p, r) = (q, r) := by rw [h]
def Two (a b : Int) : Prop := (a = 1000000001 ∨ 0 ≤ a ∧ a ≤ 1000000000) ∧ (b = 1000000001 ∨ 0 ≤ b ∧ b ≤ 1000000000)
end Go.Proofs.Ytkeeiihaijhdoaa.Pl
