/- The place of a number in a list; what trimming leaves (no program in sight). -/
import Derived.Test.YteaafghmkkejfaaPlainK
namespace Go.Proofs.Yteaafghmkkejfaa.Pl
/-- The place of x in a list; -1: none. -/
def placeL' (x : Int) : Nat → List Int → Int
  | _, [] => -1
  | i, k :: l => if k = x then (i : Int) else placeL' x (i + 1) l
def placeI (ks : List Int) (x : Int) : Int := placeL' x 0 ks
theorem placeL'_at {x : Int} {ks : List Int} {i k : Nat} (hk : k < ks.length) (h : ∀ j, j < k → el ks j ≠ x) (e : el ks k = x) : placeL' x i ks = ((i + k : Nat) : Int) := by
  induction ks generalizing i k with
  | nil => simp at hk
  | cons y l ih =>
    cases k with
    | zero => rw [el_zero] at e; simp [placeL', e]
    | succ k =>
      have h0 := h 0 (by omega)
      rw [el_zero] at h0
      rw [placeL', if_neg h0, ih (k := k) (by simpa using hk) (fun j hj => by have := h (j + 1) (by omega); rwa [el_succ] at this) (by rwa [el_succ] at e)]
      congr 1; omega
theorem placeL'_none {x : Int} {ks : List Int} {i : Nat} (h : ∀ j, j < ks.length → el ks j ≠ x) : placeL' x i ks = -1 := by
  induction ks generalizing i with
  | nil => rfl
  | cons y l ih =>
    have h0 := h 0 (by simp)
    rw [el_zero] at h0
    rw [placeL', if_neg h0]
    exact ih (fun j hj => by have := h (j + 1) (by simpa using hj); rwa [el_succ] at this)
theorem placeI_at {x : Int} {ks : List Int} {k : Nat} (hk : k < ks.length) (h : ∀ j, j < k → el ks j ≠ x) (e : el ks k = x) : placeI ks x = (k : Int) := by
  have := placeL'_at (i := 0) hk h e
  rwa [Nat.zero_add] at this
theorem placeI_none {x : Int} {ks : List Int} (h : ∀ j, j < ks.length → el ks j ≠ x) : placeI ks x = -1 := placeL'_none h
/-- The states that are left. -/
def keptL (a b : List Bool) (n : Nat) : List Int := ((List.range n).filter fun q => el a q && el b q).map fun q : Nat => (q : Int)
theorem keptL_succ (a b : List Bool) (n : Nat) : keptL a b (n + 1) = keptL a b n ++ (if (el a n && el b n) = true then [(n : Int)] else []) := by
  unfold keptL
  rw [List.range_succ, List.filter_append, List.map_append]
  cases h : (el a n && el b n) <;> simp [h]
theorem keptL_le (a b : List Bool) (n : Nat) : (keptL a b n).length ≤ n := by
  unfold keptL
  rw [List.length_map]
  exact Nat.le_trans (List.length_filter_le _ _) (by simp)
theorem keptL_mem {a b : List Bool} {n : Nat} {x : Int} (h : x ∈ keptL a b n) : ∃ q : Nat, x = (q : Int) ∧ q < n ∧ el a q = true ∧ el b q = true := by
  unfold keptL at h
  simp only [List.mem_map, List.mem_filter, List.mem_range, Bool.and_eq_true] at h
  obtain ⟨q, ⟨h1, h2, h3⟩, rfl⟩ := h
  exact ⟨q, rfl, h1, h2, h3⟩
def turnA (ks : List Int) (c : Ar) : Ar := (c.1, c.2.1, c.2.2.1, placeI ks c.2.2.2)
/-- The arcs that are left. -/
def trimA (ks : List Int) (l : List Ar) : List Ar := (l.map (turnA ks)).filter fun c => decide (0 ≤ c.2.2.2)
theorem trimA_take {ks : List Int} {l : List Ar} {k : Nat} (h : k < l.length) : trimA ks (l.take (k + 1)) = trimA ks (l.take k) ++ (if 0 ≤ placeI ks (el l k).2.2.2 then [turnA ks (el l k)] else []) := by
  unfold trimA
  rw [take_el h, List.map_append, List.filter_append]
  congr 1
  by_cases e : 0 ≤ placeI ks (el l k).2.2.2 <;> simp [e, turnA]
theorem trimA_le (ks : List Int) (l : List Ar) : (trimA ks l).length ≤ l.length := by
  unfold trimA
  exact Nat.le_trans (List.length_filter_le _ _) (by simp)
def trimS (l : List St) (ks : List Int) (x : Int) : St := ((el l x.toNat).1, trimA ks (el l x.toNat).2)
def trimM (z : Int) (l : List St) (ks : List Int) : Mc := (placeI ks z, ks.map (trimS l ks))
end Go.Proofs.Yteaafghmkkejfaa.Pl
