/- A machine whose arcs lead to later states alone (no program in sight). -/
import Derived.Test.YtfekmlblldhieaaGreatDoorJ17d
namespace Go.Proofs.YtfekmlblldhieaaGreatDoor.Pl
def fwdA (n q : Nat) (a : Ar) : Ar := (a.1, a.2.1, a.2.2.1, (q : Int) + 1 + a.2.2.2 % ((n : Int) - 1 - (q : Int)))
def fwdR (n q : Nat) (ar : List Ar) : List Ar := if q + 1 < n then ar.map (fwdA n q) else []
/-- The states ahead of k have been done. -/
def fwdL (l : List St) (k : Nat) : List St := (List.range l.length).map fun j => if j < k then ((el l j).1, fwdR l.length j (el l j).2) else el l j
theorem fwdL_length (l : List St) (k : Nat) : (fwdL l k).length = l.length := by simp [fwdL]
theorem fwdL_el (l : List St) (k : Nat) {j : Nat} (h : j < l.length) : el (fwdL l k) j = if j < k then ((el l j).1, fwdR l.length j (el l j).2) else el l j := by
  unfold fwdL
  rw [el_range_map _ h]
theorem fwdL_zero (l : List St) : fwdL l 0 = l := by
  apply el_ext (fwdL_length l 0)
  intro j hj
  rw [fwdL_el l 0 (by rw [fwdL_length] at hj; exact hj), if_neg (Nat.not_lt_zero _)]
theorem fwdL_succ (l : List St) {k : Nat} (h : k < l.length) : fwdL l (k + 1) = (fwdL l k).set k ((el (fwdL l k) k).1, fwdR l.length k (el l k).2) := by
  apply el_ext (by simp [fwdL_length])
  intro j hj
  rw [fwdL_length] at hj
  rw [el_set (by rw [fwdL_length]; exact hj), fwdL_el l _ hj, fwdL_el l _ hj, fwdL_el l _ h]
  by_cases e : k = j
  · subst e
    rw [if_pos rfl, if_pos (by omega), if_neg (by omega)]
  · rw [if_neg e]
    by_cases e2 : j < k
    · rw [if_pos e2, if_pos (by omega)]
    · rw [if_neg e2, if_neg (by omega)]
def fwdM (m : Mc) : Mc := (0, fwdL m.2 m.2.length)
theorem fwdM_length (m : Mc) : (fwdM m).2.length = m.2.length := fwdL_length _ _
theorem fwdM_el (m : Mc) {j : Nat} (h : j < m.2.length) : el (fwdM m).2 j = ((el m.2 j).1, fwdR m.2.length j (el m.2 j).2) := by
  unfold fwdM
  rw [fwdL_el _ _ h, if_pos h]
theorem fwdR_le (n q : Nat) (ar : List Ar) : (fwdR n q ar).length ≤ ar.length := by unfold fwdR; split <;> simp
theorem fwdR_mem {n q : Nat} {ar : List Ar} {c : Ar} (h : c ∈ fwdR n q ar) : ∃ a ∈ ar, c = fwdA n q a ∧ q + 1 < n := by
  unfold fwdR at h
  split at h
  · rename_i h1
    obtain ⟨a, ha, rfl⟩ := List.mem_map.1 h
    exact ⟨a, ha, rfl, h1⟩
  · simp at h
/-- Each arc leads to a later state. -/
theorem fwdA_to {n q : Nat} (h : q + 1 < n) (a : Ar) : ∃ t : Nat, (fwdA n q a).2.2.2 = (t : Int) ∧ q < t ∧ t < n := by
  have h1 := Int.emod_nonneg a.2.2.2 (b := (n : Int) - 1 - (q : Int)) (by omega)
  have h2 := Int.emod_lt_of_pos a.2.2.2 (b := (n : Int) - 1 - (q : Int)) (by omega)
  refine ⟨((q : Int) + 1 + a.2.2.2 % ((n : Int) - 1 - (q : Int))).toNat, ?_, ?_, ?_⟩
  · simp only [fwdA]; omega
  · omega
  · omega
theorem arcN_len {a b : List St} (hl : a.length = b.length) (h : ∀ j, j < a.length → (el a j).2.length ≤ (el b j).2.length) : arcN a ≤ arcN b := by
  induction a generalizing b with
  | nil => simp [arcN]
  | cons s a ih =>
    cases b with
    | nil => simp at hl
    | cons t b =>
      have h0 := h 0 (by simp)
      rw [el_zero, el_zero] at h0
      have := ih (b := b) (by simpa using hl) (fun j hj => by have := h (j + 1) (by simpa using hj); rwa [el_succ, el_succ] at this)
      simp only [arcN]
      omega
theorem fwdM_fault {m : Mc} (hf : faultM m = 0) (h0 : 0 < m.2.length) : faultM (fwdM m) = 0 := by
  obtain ⟨z, l⟩ := m
  have hs := right_size hf
  have har : arcN (fwdM (z, l)).2 ≤ arcN l := arcN_len (fwdM_length _) (fun j hj => by
    rw [fwdM_length] at hj
    rw [fwdM_el _ hj]
    exact fwdR_le _ _ _)
  have hlen := fwdM_length (z, l)
  refine faultM_ok ?_ ?_
  · simp only [sizeB, Bool.and_eq_true]
    exact ⟨decide_eq_true (by rw [hlen]; exact hs.1), decide_eq_true (Nat.le_trans har hs.2)⟩
  · simp only [rangeB, Bool.and_eq_true, List.all_eq_true]
    refine ⟨by simp only [inB, Bool.and_eq_true]; exact ⟨decide_eq_true (by simp [fwdM]), decide_eq_true (by rw [hlen]; show (0 : Int) ≤ _; simp only at h0 ⊢; omega)⟩, fun s hs' => ?_⟩
    obtain ⟨j, hj, rfl⟩ := mem_el hs'
    rw [hlen] at hj
    rw [hlen, fwdM_el _ hj]
    have h1 := right_st hf hj
    simp only [stB, Bool.and_eq_true, List.all_eq_true]
    refine ⟨h1.1, fun c hc => ?_⟩
    obtain ⟨a, ha, rfl, hq⟩ := fwdR_mem hc
    have h2 := List.all_eq_true.1 h1.2 a ha
    obtain ⟨t, h3, h4, h5⟩ := fwdA_to hq a
    simp only [arcB, inB, Bool.and_eq_true, decide_eq_true_eq] at h2
    simp only [arcB, inB, Bool.and_eq_true]
    rw [h3]
    exact ⟨⟨⟨⟨decide_eq_true h2.1.1.1.1, decide_eq_true h2.1.1.1.2⟩, ⟨decide_eq_true h2.1.1.2.1, decide_eq_true h2.1.1.2.2⟩⟩, ⟨decide_eq_true h2.1.2.1, decide_eq_true h2.1.2.2⟩⟩, ⟨decide_eq_true (by omega), decide_eq_true (by omega)⟩⟩
theorem fwdM_later (m : Mc) {q : Nat} (hq : q < m.2.length) {c : Ar} (hc : c ∈ (el (fwdM m).2 q).2) : ∃ t : Nat, c.2.2.2 = (t : Int) ∧ q < t ∧ t < m.2.length := by
  rw [fwdM_el m hq] at hc
  obtain ⟨a, _, rfl, h⟩ := fwdR_mem hc
  exact fwdA_to h a
theorem fwdR_take {n q : Nat} {ar : List Ar} {j : Nat} (hj : j < ar.length) : (ar.take (j + 1)).map (fwdA n q) = (ar.take j).map (fwdA n q) ++ [fwdA n q (el ar j)] := by rw [take_el hj]; simp
end Go.Proofs.YtfekmlblldhieaaGreatDoor.Pl
