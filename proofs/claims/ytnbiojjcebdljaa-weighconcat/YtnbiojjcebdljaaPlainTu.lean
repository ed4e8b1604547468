/- Machines the other way round: labels exchanged (no program in sight). -/
import Derived.Test.YtnbiojjcebdljaaPlainRa
namespace Go.Proofs.Ytnbiojjcebdljaa.Pl
set_option linter.unusedVariables false
set_option linter.unusedSimpArgs false
/-- P11.1 to P11.3, an arc: 0 over, 1 what is read, 2 what is written. -/
def tuA (k : Int) (a : Ar) : Ar := (if k = 1 then a.1 else a.2.1, if k = 2 then a.2.1 else a.1, a.2.2.1, a.2.2.2)
def tuS (k : Int) (s : St) : St := (s.1, s.2.map (tuA k))
def tuM (k : Int) (m : Mc) : Mc := (m.1, m.2.map (tuS k))
/-- What is answered. -/
def turM (k : Int) (m : Mc) : Mc := if faultM m = 0 then tuM k m else (0, [])
theorem tuM_len (k : Int) (m : Mc) : (tuM k m).2.length = m.2.length := by simp [tuM]
theorem tuM_el (k : Int) (m : Mc) {j : Nat} (h : j < m.2.length) : el (tuM k m).2 j = tuS k (el m.2 j) := el_map h _
theorem arcN_tu (k : Int) (l : List St) : arcN (l.map (tuS k)) = arcN l := by
  induction l with
  | nil => rfl
  | cons s l ih => simp only [List.map_cons, arcN, ih, tuS, List.length_map]
theorem arcB_tu {n : Nat} {k : Int} {a : Ar} (h : arcB n a = true) : arcB n (tuA k a) = true := by
  obtain ⟨p, q, r, t⟩ := a
  simp only [arcB, inB, Bool.and_eq_true, decide_eq_true_eq, tuA] at h ⊢
  obtain ⟨⟨⟨h1, h2⟩, h3⟩, h4⟩ := h
  refine ⟨⟨⟨?_, ?_⟩, h3⟩, h4⟩
  · split
    · exact h1
    · exact h2
  · split
    · exact h2
    · exact h1
theorem stB_tu {n : Nat} {k : Int} {s : St} (h : stB n s = true) : stB n (tuS k s) = true := by
  simp only [stB, tuS, Bool.and_eq_true, List.all_map] at h ⊢
  refine ⟨h.1, ?_⟩
  rw [List.all_eq_true] at h ⊢
  exact fun a ha => arcB_tu (h.2 a ha)
theorem tuM_right {k : Int} {m : Mc} (h : faultM m = 0) : faultM (tuM k m) = 0 := by
  have h1 := (faultM_zero h).1
  obtain ⟨h2, h3⟩ := right_parts h
  refine faultM_ok ?_ ?_
  · simp only [sizeB, tuM, List.length_map, arcN_tu] at h1 ⊢
    exact h1
  · unfold rangeB
    rw [tuM_len]
    simp only [Bool.and_eq_true, inB, decide_eq_true_eq, List.all_eq_true]
    refine ⟨h2, ?_⟩
    intro s hs
    simp only [tuM, List.mem_map] at hs
    obtain ⟨t, ht, rfl⟩ := hs
    exact stB_tu (h3 t ht)
theorem turM_ok (k : Int) (m : Mc) : okM (turM k m) := by
  unfold turM
  split
  · rename_i h
    have := right_size (z := m.1) (l := m.2) h
    refine small_ok (by rw [tuM_len]; omega) ?_
    show arcN (m.2.map (tuS k)) ≤ _
    rw [arcN_tu]; omega
  · exact ⟨by simp, fun j hj => absurd hj (by simp)⟩
theorem tuM_tuM {j k i : Int} (h : ∀ a, tuA j (tuA k a) = tuA i a) (m : Mc) : tuM j (tuM k m) = tuM i m := by
  obtain ⟨z, l⟩ := m
  simp only [tuM, List.map_map]
  congr 2
  funext s
  simp only [Function.comp, tuS, List.map_map]
  congr 2
  funext a
  exact h a
theorem over_over (m : Mc) : tuM 0 (tuM 0 m) = m := by
  obtain ⟨z, l⟩ := m
  simp only [tuM, List.map_map]
  congr 1
  conv => rhs; rw [← List.map_id l]
  apply List.map_congr_left
  intro s _
  obtain ⟨f, ar⟩ := s
  simp only [Function.comp, tuS, List.map_map, id]
  congr 1
  conv => rhs; rw [← List.map_id ar]
  apply List.map_congr_left
  intro a _
  obtain ⟨p, q, r, t⟩ := a
  simp [tuA]
theorem writes_over (m : Mc) : tuM 2 (tuM 0 m) = tuM 1 m := tuM_tuM (fun a => by simp [tuA]) m
theorem reads_reads (m : Mc) : tuM 1 (tuM 1 m) = tuM 1 m := tuM_tuM (fun a => by simp [tuA]) m
theorem writes_reads (m : Mc) : tuM 2 (tuM 1 m) = tuM 1 m := tuM_tuM (fun a => by simp [tuA]) m
/-! From behind. -/
def intoA (q : Nat) (t : Nat) (l : List Ar) : List Ar := (l.filter fun a => decide (a.2.2.2 = (t : Int))).map fun a => (a.1, a.2.1, a.2.2.1, (q : Int) + 1)
def intoL (l : List St) (t : Nat) : Nat → List Ar
  | 0 => []
  | q + 1 => intoL l t q ++ intoA q t (el l q).2
def firstL (l : List St) : Nat → List Ar
  | 0 => []
  | q + 1 => firstL l q ++ (if (el l q).1 = 1000000001 then [] else [(0, 0, (el l q).1, (q : Int) + 1)])
def revS (z : Int) (l : List St) (q : Nat) : St := (if (q : Int) = z then 0 else 1000000001, intoL l q l.length)
def revM (m : Mc) : Mc := (0, (1000000001, firstL m.2 m.2.length) :: (List.range m.2.length).map (revS m.1 m.2))
theorem revM_len (m : Mc) : (revM m).2.length = m.2.length + 1 := by simp [revM]
theorem intoA_take {q t : Nat} {l : List Ar} {j : Nat} (h : j < l.length) : intoA q t (l.take (j + 1)) = intoA q t (l.take j) ++ (if (el l j).2.2.2 = (t : Int) then [((el l j).1, (el l j).2.1, (el l j).2.2.1, (q : Int) + 1)] else []) := by
  unfold intoA
  rw [take_el h, List.filter_append, List.map_append]
  congr 1
  by_cases e : (el l j).2.2.2 = (t : Int)
  · simp [e]
  · simp [e]
theorem firstL_le (l : List St) (q : Nat) : (firstL l q).length ≤ q := by
  induction q with
  | zero => simp [firstL]
  | succ q ih =>
    simp only [firstL, List.length_append]
    split <;> simp <;> omega
theorem intoA_le (q t : Nat) (l : List Ar) : (intoA q t l).length ≤ l.length := by
  unfold intoA
  rw [List.length_map]
  exact List.length_filter_le _ _
theorem intoL_le (l : List St) (t : Nat) : ∀ q, q ≤ l.length → (intoL l t q).length ≤ arcN (l.take q)
  | 0, _ => by simp [intoL]
  | q + 1, h => by
    have h1 := intoL_le l t q (by omega)
    have h2 := intoA_le q t (el l q).2
    have h3 := arcN_take (show q < l.length by omega)
    simp only [intoL, List.length_append]
    omega
end Go.Proofs.Ytnbiojjcebdljaa.Pl
