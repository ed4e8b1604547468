/- What a cross costs (no program in sight). -/
import Derived.Test.YthcfkiinjcbajabJ16a
namespace Go.Proofs.Ythcfkiinjcbajab.Pl
set_option linter.unusedVariables false
set_option linter.unusedSimpArgs false
theorem cro_take {x : List Int} (h0 : ∀ n ∈ x, n ≠ 0) (q : Nat) : x.take (q + 1) = x.take q ++ lab (atW x q) := by
  unfold atW lab
  by_cases h : q < x.length
  · rw [if_pos h, if_neg (h0 _ (el_mem h)), take_el h]
  · rw [if_neg h, if_pos rfl, List.append_nil, List.take_of_length_le (by omega), List.take_of_length_le (by omega)]
theorem cro_el {x y : List Int} {q : Nat} (h : q < max x.length y.length) : el (croM x y).2 q = croS x y q := by
  unfold croM
  simp only
  rw [el_left (by simpa using h), el_range_map _ h]
theorem cro_len (x y : List Int) : (croM x y).2.length = max x.length y.length + 1 := by simp [croM]
theorem cro_last (x y : List Int) : el (croM x y).2 (max x.length y.length) = (0, []) := by
  unfold croM
  simp only
  have := el_last ((List.range (max x.length y.length)).map (croS x y)) (0, [])
  rwa [List.length_map, List.length_range] at this
theorem cro_way {x y : List Int} (hx : ∀ n ∈ x, n ≠ 0) (hy : ∀ n ∈ y, n ≠ 0) {p c : Nat} {u v : List Int} (h : Way (croM x y).2 0 u v p c) : p ≤ max x.length y.length ∧ u = x.take p ∧ v = y.take p ∧ c = 0 := by
  induction h with
  | nil => exact ⟨Nat.zero_le _, by simp, by simp, rfl⟩
  | snoc h ha ht ih =>
    rename_i u v p c a t
    obtain ⟨hp, rfl, rfl, rfl⟩ := ih
    by_cases e : p = max x.length y.length
    · rw [e, cro_last] at ha
      simp at ha
    · rw [cro_el (by omega)] at ha
      simp only [croS, List.mem_singleton] at ha
      subst ha
      simp only at ht
      have hpt : t = p + 1 := by omega
      subst hpt
      exact ⟨by omega, (cro_take hx p).symm, (cro_take hy p).symm, by simp⟩
theorem way_cro {x y : List Int} (hx : ∀ n ∈ x, n ≠ 0) (hy : ∀ n ∈ y, n ≠ 0) : ∀ p, p ≤ max x.length y.length → Way (croM x y).2 0 (x.take p) (y.take p) p 0
  | 0, _ => by simpa using Way.nil
  | p + 1, hp => by
    have ih := way_cro hx hy p (by omega)
    have := ih.snoc (a := (atW x p, atW y p, 0, (p : Int) + 1)) (by rw [cro_el (by omega)]; simp [croS]) (t := p + 1) (by simp)
    rw [cro_take hx p, cro_take hy p]
    simpa using this
theorem costs_cro {x y : List Int} (hx : ∀ n ∈ x, n ≠ 0) (hy : ∀ n ∈ y, n ≠ 0) (u v : List Int) (c : Nat) : Costs (croM x y) u v c ↔ u = x ∧ v = y ∧ c = 0 := by
  constructor
  · rintro ⟨h0, p, d, hw, hp, hn, rfl⟩
    obtain ⟨h1, h2, h3, h4⟩ := cro_way hx hy hw
    by_cases e : p = max x.length y.length
    · rw [e] at h2 h3 ⊢
      rw [List.take_of_length_le (by omega)] at h2 h3
      rw [cro_last, h4]
      exact ⟨h2, h3, rfl⟩
    · rw [cro_el (by omega)] at hn
      exact absurd rfl hn
  · rintro ⟨rfl, rfl, rfl⟩
    have h := way_cro hx hy (max u.length v.length) (Nat.le_refl _)
    rw [List.take_of_length_le (by omega), List.take_of_length_le (by omega)] at h
    refine ⟨by simp [croM], max u.length v.length, 0, h, by rw [cro_len]; omega, ?_, ?_⟩
    · rw [cro_last]; decide
    · rw [cro_last]; rfl
theorem cro_cheap (x y : List Int) : CheapL (croM x y).2 := fun s hs => by
  simp only [croM, List.mem_append, List.mem_map, List.mem_singleton] at hs
  rcases hs with ⟨i, _, rfl⟩ | rfl
  · refine ⟨fun h => absurd rfl h, fun a ha => ?_⟩
    simp only [croS, List.mem_singleton] at ha
    subst ha
    simp
  · exact ⟨fun _ => by simp, fun a ha => absurd ha (by simp)⟩
theorem cro_arcs (x y : List Int) : arcN (croM x y).2 ≤ max x.length y.length := by
  unfold croM
  simp only
  rw [arcN_append]
  have h1 : ∀ l : List Nat, arcN (l.map (croS x y)) = l.length := fun l => by
    induction l with
    | nil => rfl
    | cons i l ih => simp only [List.map_cons, arcN, ih, croS, List.length_cons, List.length_nil]; omega
  rw [h1]
  simp [arcN]
theorem cro_right {x y : List Int} (hx : x.length ≤ 12) (hy : y.length ≤ 12) (lx : ∀ n ∈ x, 0 ≤ n ∧ n ≤ 1000) (ly : ∀ n ∈ y, 0 ≤ n ∧ n ≤ 1000) : faultM (croM x y) = 0 := by
  have h1 := cro_len x y
  have h2 := cro_arcs x y
  refine faultM_ok (by simp only [sizeB, Bool.and_eq_true, decide_eq_true_eq]; omega) ?_
  unfold rangeB
  rw [h1]
  simp only [Bool.and_eq_true, inB, decide_eq_true_eq, List.all_eq_true]
  refine ⟨by simp only [croM]; omega, fun s hs => ?_⟩
  have at_in : ∀ (l : List Int) (i : Nat), (∀ n ∈ l, 0 ≤ n ∧ n ≤ 1000) → 0 ≤ atW l i ∧ atW l i ≤ 1000 := fun l i hl => by
    unfold atW
    split
    · rename_i h; exact hl _ (el_mem h)
    · omega
  simp only [croM, List.mem_append, List.mem_map, List.mem_singleton, List.mem_range] at hs
  rcases hs with ⟨i, hi, rfl⟩ | rfl
  · have a1 := at_in x i lx
    have a2 := at_in y i ly
    have hi' : i < x.length ∨ i < y.length := by omega
    simp only [stB, croS, finB, arcB, inB, List.all_cons, List.all_nil, Bool.and_true, Bool.and_eq_true, Bool.or_eq_true, decide_eq_true_eq]
    refine ⟨.inl trivial, ⟨⟨⟨a1, a2⟩, by omega, by omega⟩, by omega, by omega⟩⟩
  · simp [stB, finB, inB]
end Go.Proofs.Ythcfkiinjcbajab.Pl
