/- What trimming leaves: places, and that all that is left lies on a path (no program in sight). -/
import Derived.Test.YteaafghmkkejfaaPlainTr
import Derived.Test.YteaafghmkkejfaaJ15h
namespace Go.Proofs.Yteaafghmkkejfaa.Pl
theorem keptL_sorted (a b : List Bool) (n : Nat) : (keptL a b n).Pairwise (· < ·) := by
  unfold keptL
  rw [List.pairwise_map]
  refine (List.Pairwise.filter _ (List.pairwise_lt_range (n := n))).imp ?_
  intro x y h
  omega
theorem keptL_iff {a b : List Bool} {n q : Nat} : (q : Int) ∈ keptL a b n ↔ q < n ∧ el a q = true ∧ el b q = true := by
  constructor
  · intro h
    obtain ⟨p, h1, h2, h3, h4⟩ := keptL_mem h
    obtain rfl : q = p := by omega
    exact ⟨h2, h3, h4⟩
  · rintro ⟨h1, h2, h3⟩
    unfold keptL
    simp only [List.mem_map, List.mem_filter, List.mem_range, Bool.and_eq_true]
    exact ⟨q, ⟨h1, h2, h3⟩, rfl⟩
theorem placeI_el {ks : List Int} (hp : ks.Pairwise (· < ·)) {i : Nat} (hi : i < ks.length) : placeI ks (el ks i) = (i : Int) := by
  refine placeI_at hi (fun j hj => ?_) rfl
  have := List.pairwise_iff_getElem.1 hp j i (by omega) hi hj
  rw [el_get hi, el_get (by omega)]
  omega
theorem placeI_mem {ks : List Int} (hp : ks.Pairwise (· < ·)) {x : Int} (h : x ∈ ks) : ∃ i : Nat, i < ks.length ∧ el ks i = x ∧ placeI ks x = (i : Int) := by
  obtain ⟨i, hi, rfl⟩ := mem_el h
  exact ⟨i, hi, rfl, placeI_el hp hi⟩
theorem placeI_not {ks : List Int} {x : Int} (h : x ∉ ks) : placeI ks x = -1 := placeI_none (fun _ hj e => h (e ▸ el_mem hj))
theorem placeI_nonneg {ks : List Int} (hp : ks.Pairwise (· < ·)) {x : Int} : 0 ≤ placeI ks x ↔ x ∈ ks := by
  constructor
  · intro h
    by_cases e : x ∈ ks
    · exact e
    · rw [placeI_not e] at h; omega
  · intro h
    obtain ⟨i, _, _, e⟩ := placeI_mem hp h
    rw [e]; omega
section
variable {z : Int} {l : List St} {aa bs : List Bool}
/-- The trimmed machine's states. -/
theorem trim_el {ks : List Int} {i : Nat} (hi : i < ks.length) : el (ks.map (trimS l ks)) i = ((el l (el ks i).toNat).1, trimA ks (el l (el ks i).toNat).2) := by
  rw [el_map hi]; rfl
theorem trimA_mem {ks : List Int} {ar : List Ar} {c : Ar} (h : c ∈ trimA ks ar) : ∃ d ∈ ar, c = turnA ks d ∧ 0 ≤ placeI ks d.2.2.2 := by
  unfold trimA at h
  simp only [List.mem_filter, List.mem_map, decide_eq_true_eq] at h
  obtain ⟨⟨d, hd, rfl⟩, h0⟩ := h
  exact ⟨d, hd, rfl, h0⟩
theorem trimA_in {ks : List Int} {ar : List Ar} {d : Ar} (hd : d ∈ ar) (h0 : 0 ≤ placeI ks d.2.2.2) : turnA ks d ∈ trimA ks ar := by
  unfold trimA
  simp only [List.mem_filter, List.mem_map, decide_eq_true_eq]
  exact ⟨⟨d, hd, rfl⟩, h0⟩
theorem el_true {n j : Nat} : el (List.replicate n true) j = true ↔ j < n := by
  unfold el
  rw [List.getElem?_replicate]
  split
  · rename_i h; simp [h]
  · rename_i h; simp [h]
/-- Where arcs of a right machine lead. -/
theorem to_right (hf : faultM (z, l) = 0) {q : Nat} (hq : q < l.length) {d : Ar} (hd : d ∈ (el l q).2) : ∃ t : Nat, d.2.2.2 = (t : Int) ∧ t < l.length := by
  have h := List.all_eq_true.1 (right_st hf hq).2 d hd
  simp only [arcB, inB, Bool.and_eq_true, decide_eq_true_eq] at h
  exact ⟨d.2.2.2.toNat, by omega, by omega⟩
theorem trim_ahead (hf : faultM (z, l) = 0) (hA : Least (AheadC z l) l.length aa) (hB : Least (BackC l) l.length bs) (T : Nat → Prop) (hT : AheadC (placeI (keptL aa bs l.length) z) ((keptL aa bs l.length).map (trimS l (keptL aa bs l.length))) T) :
    ∀ i, i < (keptL aa bs l.length).length → T i := by
  have hp := keptL_sorted aa bs l.length
  have hk : ∀ q, q < l.length → el aa q = true → el bs q = true → ∃ i : Nat, i < (keptL aa bs l.length).length ∧ el (keptL aa bs l.length) i = (q : Int) ∧ placeI (keptL aa bs l.length) (q : Int) = (i : Int) := fun q hq h1 h2 => placeI_mem hp (keptL_iff.2 ⟨hq, h1, h2⟩)
  have key : ∀ q, q < l.length → el aa q = true → (el aa q = true ∧ (el bs q = true → T (placeI (keptL aa bs l.length) (q : Int)).toNat)) := by
    refine hA.2.2 (fun q => el aa q = true ∧ (el bs q = true → T (placeI (keptL aa bs l.length) (q : Int)).toNat)) ⟨?_, ?_⟩
    · intro q hq hz
      have h1 := hA.2.1.1 q hq hz
      refine ⟨h1, fun h2 => ?_⟩
      obtain ⟨i, hi, _, e⟩ := hk q hq h1 h2
      rw [e]
      refine hT.1 _ (by simpa using hi) ?_
      rw [← hz, e]; simp
    · intro q hq h9 d hd
      obtain ⟨t, ht, htn⟩ := to_right hf hq hd
      have h1 := hA.2.1.2 q hq h9.1 d hd
      rw [ht] at h1 ⊢
      simp only [Int.toNat_natCast] at h1 ⊢
      refine ⟨h1, fun h2 => ?_⟩
      have hbq : el bs q = true := hB.2.1.2 q hq d hd (by rw [ht]; simpa using h2)
      obtain ⟨i, hi, hei, e⟩ := hk q hq h9.1 hbq
      obtain ⟨j, hj, hej, e2⟩ := hk t htn h1 h2
      have h3 := h9.2 hbq
      rw [e] at h3
      have h4 := hT.2 i (by simpa using hi) (by simpa using h3) (turnA (keptL aa bs l.length) d) (by
        rw [trim_el hi, hei]
        simp only [Int.toNat_natCast]
        exact trimA_in hd (by rw [ht, e2]; omega))
      simp only [turnA] at h4
      rw [ht] at h4
      exact h4
  intro i hi
  obtain ⟨q, hq, hqn, h1, h2⟩ := keptL_mem (el_mem hi)
  have h3 := (key q hqn h1).2 h2
  rw [← hq, placeI_el hp hi] at h3
  simpa using h3
end
end Go.Proofs.Yteaafghmkkejfaa.Pl
