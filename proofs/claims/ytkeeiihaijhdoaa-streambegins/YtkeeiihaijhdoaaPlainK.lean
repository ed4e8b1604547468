/- Plain facts on lists of arcs, states, machines (no program in sight). -/
import Derived.WalkKit
namespace Go.Proofs.Ytkeeiihaijhdoaa.Pl

abbrev Ar := Int × Int × Int × Int
abbrev St := Int × List Ar
abbrev Mc := Int × List St
/-- The element at place j. -/
def el {α : Type} [Inhabited α] (l : List α) (j : Nat) : α := l[j]?.getD default
section
variable {α : Type} [Inhabited α]
theorem el_get {l : List α} {j : Nat} (h : j < l.length) : el l j = l[j] := by simp [el, h]
theorem el_zero (a : α) (l : List α) : el (a :: l) 0 = a := rfl
theorem el_succ (a : α) (l : List α) (j : Nat) : el (a :: l) (j + 1) = el l j := by simp [el]
theorem el_mem {l : List α} {j : Nat} (h : j < l.length) : el l j ∈ l := by rw [el_get h]; exact List.getElem_mem h
theorem mem_el {l : List α} {a : α} (h : a ∈ l) : ∃ j, j < l.length ∧ el l j = a := by
  obtain ⟨j, hj, e⟩ := List.mem_iff_getElem.1 h
  exact ⟨j, hj, by rw [el_get hj]; exact e⟩
theorem take_el {l : List α} {k : Nat} (h : k < l.length) : l.take (k + 1) = l.take k ++ [el l k] := by
  rw [List.take_succ_eq_append_getElem h, el_get h]
theorem el_left {l r : List α} {j : Nat} (h : j < l.length) : el (l ++ r) j = el l j := by simp [el, List.getElem?_append_left h]
theorem el_right {l r : List α} {j : Nat} (h : l.length ≤ j) : el (l ++ r) j = el r (j - l.length) := by simp [el, List.getElem?_append_right h]
theorem el_last (l : List α) (a : α) : el (l ++ [a]) l.length = a := by simp [el]
theorem el_take {l : List α} {j k : Nat} (h : j < k) : el (l.take k) j = el l j := by simp [el, h]
theorem el_map {β : Type} [Inhabited β] {l : List α} {j : Nat} (h : j < l.length) (f : α → β) : el (l.map f) j = f (el l j) := by simp [el, h]
theorem el_range_map (f : Nat → α) {n j : Nat} (h : j < n) : el ((List.range n).map f) j = f j := by simp [el, h]
theorem el_ext {l r : List α} (hl : l.length = r.length) (h : ∀ j, j < l.length → el l j = el r j) : l = r := by
  apply List.ext_getElem hl
  intro j h1 h2
  have := h j h1
  rwa [el_get h1, el_get h2] at this
theorem all_take_succ {l : List α} {k : Nat} (h : k < l.length) (p : α → Bool) : (l.take (k + 1)).all p = ((l.take k).all p && p (el l k)) := by
  rw [take_el h]; simp
theorem all_false_el {l : List α} {k : Nat} (h : k < l.length) {p : α → Bool} (hp : p (el l k) = false) : l.all p = false := by
  rw [List.all_eq_false]
  exact ⟨el l k, el_mem h, by simp [hp]⟩
end
/-- How many arcs there are in all. -/
def arcN : List St → Nat
  | [] => 0
  | s :: l => s.2.length + arcN l
theorem arcN_append (a b : List St) : arcN (a ++ b) = arcN a + arcN b := by
  induction a with
  | nil => simp [arcN]
  | cons s l ih => simp [arcN, ih]; omega
theorem arcN_take {l : List St} {k : Nat} (h : k < l.length) : arcN (l.take (k + 1)) = arcN (l.take k) + (el l k).2.length := by
  rw [take_el h, arcN_append]; simp [arcN]
theorem arcN_le {l : List St} {R : Nat} (h : ∀ j, j < l.length → (el l j).2.length ≤ R) : arcN l ≤ l.length * R := by
  induction l with
  | nil => simp [arcN]
  | cons s l ih =>
    have h0 := h 0 (by simp)
    rw [el_zero] at h0
    have := ih (fun j hj => by have := h (j + 1) (by simpa using hj); rwa [el_succ] at this)
    simp only [arcN, List.length_cons, Nat.add_mul, Nat.one_mul]
    omega
theorem arcN_take_le {l : List St} {R : Nat} (h : ∀ j, j < l.length → (el l j).2.length ≤ R) (k : Nat) : arcN (l.take k) ≤ l.length * R := by
  refine Nat.le_trans (arcN_le (l := l.take k) (R := R) fun j hj => ?_) (Nat.mul_le_mul_right _ (by simp; omega))
  rw [List.length_take] at hj
  rw [el_take (by omega)]
  exact h j (by omega)
/-- Is n from a to b? -/
def inB (n a b : Int) : Bool := decide (a ≤ n) && decide (n ≤ b)
/-- Is n a weight? -/
def finB (n : Int) : Bool := decide (n = 1000000001) || inB n 0 1000000000
def arcB (n : Nat) (a : Ar) : Bool := inB a.1 0 1000 && inB a.2.1 0 1000 && inB a.2.2.1 0 1000000000 && inB a.2.2.2 0 ((n : Int) - 1)
def stB (n : Nat) (s : St) : Bool := finB s.1 && s.2.all (arcB n)
def sizeB (m : Mc) : Bool := decide (m.2.length ≤ 60) && decide (arcN m.2 ≤ 400)
def rangeB (m : Mc) : Bool := inB m.1 (-1) ((m.2.length : Int) - 1) && m.2.all (stB m.2.length)
/-- P4.1. -/
def faultM (m : Mc) : Int := if sizeB m = true then (if rangeB m = true then 0 else 2) else 1
theorem faultM_size {m : Mc} (h : sizeB m = false) : faultM m = 1 := by simp [faultM, h]
theorem faultM_range {m : Mc} (h : sizeB m = true) (g : rangeB m = false) : faultM m = 2 := by simp [faultM, h, g]
theorem faultM_ok {m : Mc} (h : sizeB m = true) (g : rangeB m = true) : faultM m = 0 := by simp [faultM, h, g]
theorem faultM_zero {m : Mc} (h : faultM m = 0) : sizeB m = true ∧ rangeB m = true := by
  unfold faultM at h
  split at h
  · rename_i h1
    split at h
    · rename_i h2; exact ⟨h1, h2⟩
    · simp at h
  · simp at h
theorem bool_cases' (b : Bool) : b = true ∨ b = false := by cases b <;> simp
theorem okM_arcs {l : List St} (h : l.length * 32 ≤ 140737488351232 ∧ ∀ j, j < l.length → (el l j).2.length * 32 ≤ 140737488351232) (h60 : l.length ≤ 60) (k : Nat) : arcN (l.take k) ≤ 60 * 4398046511104 := by
  have h1 := arcN_take_le (l := l) (R := 4398046511104) (fun j hj => by have := h.2 j hj; omega) k
  exact Nat.le_trans h1 (Nat.mul_le_mul_right _ h60)
theorem ret_boolK {a b : Bool} (h : a = b) : Ending.returned (.bool a) = .returned (.bool b) := by rw [h]
theorem ret_intK {k : IntKind} {a b : Int} (h : a = b) : Ending.returned (.int k a) = .returned (.int k b) := by rw [h]
/-- How many states may end. -/
def finN : List St → Nat
  | [] => 0
  | s :: l => (if s.1 = 1000000001 then 0 else 1) + finN l
theorem finN_append (a b : List St) : finN (a ++ b) = finN a + finN b := by
  induction a with
  | nil => simp [finN]
  | cons s l ih => simp [finN, ih]; omega
theorem finN_take {l : List St} {k : Nat} (h : k < l.length) : finN (l.take (k + 1)) = finN (l.take k) + (if (el l k).1 = 1000000001 then 0 else 1) := by
  rw [take_el h, finN_append]; simp [finN]
theorem finN_le (l : List St) : finN l ≤ l.length := by
  induction l with
  | nil => simp [finN]
  | cons s l ih => simp only [finN, List.length_cons]; split <;> omega
theorem finN_take_le (l : List St) (k : Nat) : finN (l.take k) ≤ l.length := Nat.le_trans (finN_le _) (by simp; omega)
theorem right_st {z : Int} {l : List St} (h : faultM (z, l) = 0) {j : Nat} (hj : j < l.length) : finB (el l j).1 = true ∧ (el l j).2.all (arcB l.length) = true := by
  have h1 := (faultM_zero h).2
  simp only [rangeB, Bool.and_eq_true, List.all_eq_true] at h1
  have h2 := h1.2 _ (el_mem hj)
  simpa [stB] using h2
theorem right_size {z : Int} {l : List St} (h : faultM (z, l) = 0) : l.length ≤ 60 ∧ arcN l ≤ 400 := by
  have h1 := (faultM_zero h).1
  simpa [sizeB] using h1
theorem fin_lt {f : Int} (h : finB f = true) : f < 1000000001 ↔ ¬ f = 1000000001 := by
  simp [finB, inB] at h
  omega
/-- The sizes that any machine has that came in. -/
def okM (m : Mc) : Prop := m.2.length * 32 ≤ 140737488351232 ∧ ∀ j, j < m.2.length → (el m.2 j).2.length * 32 ≤ 140737488351232
end Go.Proofs.Ytkeeiihaijhdoaa.Pl
