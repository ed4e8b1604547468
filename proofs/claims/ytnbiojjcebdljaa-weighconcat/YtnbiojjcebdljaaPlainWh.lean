/- What a machine costs for words: states and places of both words, numbered (no program in sight). -/
import Derived.Test.YtnbiojjcebdljaaPlainWg
namespace Go.Proofs.Ytnbiojjcebdljaa.Pl
set_option linter.unusedVariables false
set_option linter.unusedSimpArgs false
/-- Where a label leads in a word from a place on. -/
def fitN (l : List Int) (i : Nat) (b : Int) : Option Nat := if b = 0 then some i else if i < l.length ∧ el l i = b then some (i + 1) else none
theorem fitN_le {l : List Int} {i j : Nat} {b : Int} (h : fitN l i b = some j) (hi : i ≤ l.length) : j ≤ l.length := by
  unfold fitN at h
  split at h
  · simp at h; omega
  · split at h
    · simp at h; omega
    · simp at h
theorem take_snocW {l : List Int} {i : Nat} (h : i < l.length) : l.take (i + 1) = l.take i ++ [el l i] := by
  rw [List.take_add_one, List.getElem?_eq_getElem h, el_get h]
  rfl
theorem fitN_take {l : List Int} {i j : Nat} {b : Int} (h : fitN l i b = some j) : l.take j = l.take i ++ lab b := by
  unfold fitN at h
  unfold lab
  split at h
  · rename_i hb
    simp at h
    rw [if_pos hb, h, List.append_nil]
  · rename_i hb
    rw [if_neg hb]
    split at h
    · rename_i hi
      simp at h
      rw [← h, take_snocW hi.1, hi.2]
    · simp at h
theorem take_fitN {l u : List Int} {j : Nat} {b : Int} (hj : j ≤ l.length) (h : u ++ lab b = l.take j) : ∃ i, i ≤ l.length ∧ u = l.take i ∧ fitN l i b = some j := by
  unfold lab at h
  unfold fitN
  by_cases hb : b = 0
  · rw [if_pos hb, List.append_nil] at h
    exact ⟨j, hj, h, by rw [if_pos hb]⟩
  · rw [if_neg hb] at h
    rcases j with _ | j
    · simp at h
    · rw [take_snocW (by omega)] at h
      have h1 := List.append_inj' h rfl
      have h2 : b = el l j := by simpa using h1.2
      exact ⟨j, by omega, h1.1, by rw [if_neg hb, if_pos ⟨by omega, h2.symm⟩]⟩
/-- The number of a state and a place in each word. -/
def idx (X Y q i j : Nat) : Nat := (q * (X + 1) + i) * (Y + 1) + j
theorem idx_j {X Y q i j : Nat} (hj : j ≤ Y) : idx X Y q i j % (Y + 1) = j := by
  unfold idx
  rw [Nat.mul_comm, Nat.mul_add_mod]
  exact Nat.mod_eq_of_lt (by omega)
theorem idx_d {X Y q i j : Nat} (hj : j ≤ Y) : idx X Y q i j / (Y + 1) = q * (X + 1) + i := by
  unfold idx
  rw [Nat.mul_comm, Nat.mul_add_div (by omega), Nat.div_eq_of_lt (by omega), Nat.add_zero]
theorem idx_i {X Y q i j : Nat} (hi : i ≤ X) (hj : j ≤ Y) : idx X Y q i j / (Y + 1) % (X + 1) = i := by
  rw [idx_d hj, Nat.mul_comm, Nat.mul_add_mod]
  exact Nat.mod_eq_of_lt (by omega)
theorem idx_q {X Y q i j : Nat} (hi : i ≤ X) (hj : j ≤ Y) : idx X Y q i j / (Y + 1) / (X + 1) = q := by
  rw [idx_d hj, Nat.mul_comm, Nat.mul_add_div (by omega), Nat.div_eq_of_lt (by omega), Nat.add_zero]
theorem idx_one {X Y q i j q' i' j' : Nat} (hi : i ≤ X) (hj : j ≤ Y) (hi' : i' ≤ X) (hj' : j' ≤ Y) (h : idx X Y q i j = idx X Y q' i' j') : q = q' ∧ i = i' ∧ j = j' := by
  refine ⟨?_, ?_, ?_⟩
  · have := idx_q (q := q) hi hj; rw [h, idx_q hi' hj'] at this; exact this.symm
  · have := idx_i (q := q) hi hj; rw [h, idx_i hi' hj'] at this; exact this.symm
  · have := idx_j (X := X) (q := q) (i := i) hj; rw [h, idx_j hj'] at this; exact this.symm
theorem idx_lt {X Y q i j n : Nat} (hq : q < n) (hi : i ≤ X) (hj : j ≤ Y) : idx X Y q i j < n * (X + 1) * (Y + 1) := by
  unfold idx
  have h1 : q * (X + 1) + i + 1 ≤ n * (X + 1) := by
    have : (q + 1) * (X + 1) ≤ n * (X + 1) := Nat.mul_le_mul_right _ (by omega)
    rw [Nat.add_mul] at this
    omega
  have h2 : (q * (X + 1) + i + 1) * (Y + 1) ≤ n * (X + 1) * (Y + 1) := Nat.mul_le_mul_right _ h1
  rw [Nat.add_mul] at h2
  omega
/-- Each number is one. -/
theorem idx_of {X Y n k : Nat} (h : k < n * (X + 1) * (Y + 1)) : k / (Y + 1) / (X + 1) < n ∧ k / (Y + 1) % (X + 1) ≤ X ∧ k % (Y + 1) ≤ Y ∧ k = idx X Y (k / (Y + 1) / (X + 1)) (k / (Y + 1) % (X + 1)) (k % (Y + 1)) := by
  have h1 : k / (Y + 1) < n * (X + 1) := (Nat.div_lt_iff_lt_mul (by omega)).2 h
  refine ⟨(Nat.div_lt_iff_lt_mul (by omega)).2 h1, ?_, ?_, ?_⟩
  · have := Nat.mod_lt (k / (Y + 1)) (show 0 < X + 1 by omega); omega
  · have := Nat.mod_lt k (show 0 < Y + 1 by omega); omega
  · unfold idx
    rw [Nat.div_add_mod', Nat.div_add_mod']
/-- What is written: it matters, or not. -/
def fitF (free : Bool) (y : List Int) (j : Nat) (b : Int) : Option Nat := if free = true then some j else fitN y j b
theorem fitF_le {free : Bool} {l : List Int} {i j : Nat} {b : Int} (h : fitF free l i b = some j) (hi : i ≤ l.length) : j ≤ l.length := by
  unfold fitF at h
  split at h
  · simp at h; omega
  · exact fitN_le h hi
/-- One arc further. -/
def Edge (l : List St) (x y : List Int) (free : Bool) (k w k' : Nat) : Prop :=
  ∃ q i j a t i' j', q < l.length ∧ i ≤ x.length ∧ j ≤ y.length ∧ a ∈ (el l q).2 ∧ a.2.2.2 = ((t : Nat) : Int) ∧ fitN x i a.1 = some i' ∧ fitF free y j a.2.1 = some j' ∧ k = idx x.length y.length q i j ∧ w = a.2.2.1.toNat ∧ k' = idx x.length y.length t i' j'
theorem run_way {l : List St} {x y : List Int} {z n k c : Nat} (hz : z < l.length) (hto : ∀ q, q < l.length → ∀ a ∈ (el l q).2, ∃ t : Nat, a.2.2.2 = (t : Int) ∧ t < l.length) (h : Run (Edge l x y false) (idx x.length y.length z 0 0) n k c) :
    ∃ q i j, q < l.length ∧ i ≤ x.length ∧ j ≤ y.length ∧ k = idx x.length y.length q i j ∧ Way l z (x.take i) (y.take j) q c := by
  induction h with
  | nil => exact ⟨z, 0, 0, hz, by omega, by omega, rfl, by simpa using Way.nil⟩
  | step h e ih =>
    obtain ⟨q, i, j, hq, hi, hj, rfl, hw⟩ := ih
    obtain ⟨q', i', j', a, t, i2, j2, hq', hi', hj', ha, ht, f1, f2, ek, rfl, rfl⟩ := e
    obtain ⟨rfl, rfl, rfl⟩ := idx_one hi hj hi' hj' ek
    obtain ⟨t', e1, e2⟩ := hto _ hq a ha
    have : t = t' := by omega
    subst this
    have f2' : fitN y j a.2.1 = some j2 := by simpa [fitF] using f2
    refine ⟨t, i2, j2, e2, fitN_le f1 hi, fitN_le f2' hj, rfl, ?_⟩
    rw [fitN_take f1, fitN_take f2']
    exact hw.snoc ha ht
theorem way_run {l : List St} {x y : List Int} {z q c : Nat} {u v : List Int} (hz : z < l.length) (hto : ∀ q, q < l.length → ∀ a ∈ (el l q).2, ∃ t : Nat, a.2.2.2 = (t : Int) ∧ t < l.length) (h : Way l z u v q c) :
    ∀ i j, i ≤ x.length → j ≤ y.length → u = x.take i → v = y.take j → ∃ n, Run (Edge l x y false) (idx x.length y.length z 0 0) n (idx x.length y.length q i j) c := by
  induction h with
  | nil =>
    intro i j hi hj hu hv
    have h1 : i = 0 := by
      have := congrArg List.length hu
      simp at this; omega
    have h2 : j = 0 := by
      have := congrArg List.length hv
      simp at this; omega
    subst h1; subst h2
    exact ⟨0, .nil⟩
  | snoc h ha ht ih =>
    intro i j hi hj hu hv
    obtain ⟨i0, hi0, hu0, f1⟩ := take_fitN hi hu
    obtain ⟨j0, hj0, hv0, f2⟩ := take_fitN hj hv
    obtain ⟨n, hn⟩ := ih i0 j0 hi0 hj0 hu0 hv0
    exact ⟨n + 1, hn.step ⟨_, i0, j0, _, _, i, j, h.inside hz hto, hi0, hj0, ha, ht, f1, by simpa [fitF] using f2, rfl, rfl, rfl⟩⟩
theorem run_wayF {l : List St} {x : List Int} {z n k c : Nat} (hz : z < l.length) (hto : ∀ q, q < l.length → ∀ a ∈ (el l q).2, ∃ t : Nat, a.2.2.2 = (t : Int) ∧ t < l.length) (h : Run (Edge l x [] true) (idx x.length 0 z 0 0) n k c) :
    ∃ q i v, q < l.length ∧ i ≤ x.length ∧ k = idx x.length 0 q i 0 ∧ Way l z (x.take i) v q c := by
  induction h with
  | nil => exact ⟨z, 0, [], hz, by omega, rfl, by simpa using Way.nil⟩
  | step h e ih =>
    obtain ⟨q, i, v, hq, hi, rfl, hw⟩ := ih
    obtain ⟨q', i', j', a, t, i2, j2, hq', hi', hj', ha, ht, f1, f2, ek, rfl, rfl⟩ := e
    simp only [List.length_nil] at hj' ek
    obtain ⟨rfl, rfl, rfl⟩ := idx_one hi (Nat.le_refl 0) hi' hj' ek
    obtain ⟨t', e1, e2⟩ := hto _ hq a ha
    have : t = t' := by omega
    subst this
    have : j2 = 0 := by simp [fitF] at f2; omega
    subst this
    refine ⟨t, i2, v ++ lab a.2.1, e2, fitN_le f1 hi, rfl, ?_⟩
    rw [fitN_take f1]
    exact hw.snoc ha ht
theorem way_runF {l : List St} {x : List Int} {z q c : Nat} {u v : List Int} (hz : z < l.length) (hto : ∀ q, q < l.length → ∀ a ∈ (el l q).2, ∃ t : Nat, a.2.2.2 = (t : Int) ∧ t < l.length) (h : Way l z u v q c) :
    ∀ i, i ≤ x.length → u = x.take i → ∃ n, Run (Edge l x [] true) (idx x.length 0 z 0 0) n (idx x.length 0 q i 0) c := by
  induction h with
  | nil =>
    intro i hi hu
    have h1 : i = 0 := by
      have := congrArg List.length hu
      simp at this; omega
    subst h1
    exact ⟨0, .nil⟩
  | snoc h ha ht ih =>
    intro i hi hu
    obtain ⟨i0, hi0, hu0, f1⟩ := take_fitN hi hu
    obtain ⟨n, hn⟩ := ih i0 hi0 hu0
    exact ⟨n + 1, hn.step ⟨_, i0, 0, _, _, i, 0, h.inside hz hto, hi0, Nat.le_refl _, ha, ht, f1, by simp [fitF], rfl, rfl, rfl⟩⟩
/-- The places at the words' ends: just the ways. -/
theorem ends_way {l : List St} {x y : List Int} {z q c : Nat} (hz : z < l.length) (hto : ∀ q, q < l.length → ∀ a ∈ (el l q).2, ∃ t : Nat, a.2.2.2 = (t : Int) ∧ t < l.length) :
    (∃ n, Run (Edge l x y false) (idx x.length y.length z 0 0) n (idx x.length y.length q x.length y.length) c) ↔ Way l z x y q c := by
  constructor
  · rintro ⟨n, h⟩
    obtain ⟨q', i, j, hq, hi, hj, e, hw⟩ := run_way hz hto h
    obtain ⟨rfl, rfl, rfl⟩ := idx_one (Nat.le_refl _) (Nat.le_refl _) hi hj e
    simpa using hw
  · intro h
    exact way_run hz hto h x.length y.length (Nat.le_refl _) (Nat.le_refl _) (by simp) (by simp)
theorem ends_wayF {l : List St} {x : List Int} {z q c : Nat} (hz : z < l.length) (hto : ∀ q, q < l.length → ∀ a ∈ (el l q).2, ∃ t : Nat, a.2.2.2 = (t : Int) ∧ t < l.length) :
    (∃ n, Run (Edge l x [] true) (idx x.length 0 z 0 0) n (idx x.length 0 q x.length 0) c) ↔ ∃ v, Way l z x v q c := by
  constructor
  · rintro ⟨n, h⟩
    obtain ⟨q', i, v, hq, hi, e, hw⟩ := run_wayF hz hto h
    obtain ⟨rfl, rfl, _⟩ := idx_one (Nat.le_refl _) (Nat.le_refl 0) hi (Nat.le_refl 0) e
    exact ⟨v, by simpa using hw⟩
  · rintro ⟨v, h⟩
    exact way_runF hz hto h x.length (Nat.le_refl _) (by simp)
end Go.Proofs.Ytnbiojjcebdljaa.Pl
