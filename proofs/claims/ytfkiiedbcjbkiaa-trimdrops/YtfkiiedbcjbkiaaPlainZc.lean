/- What trimming leaves: it is right, all of it lies on paths, trimmed again it stays (no program in sight). -/
import Derived.Test.YtfkiiedbcjbkiaaPlainZa
namespace Go.Proofs.Ytfkiiedbcjbkiaa.Pl
section
variable {z : Int} {l : List St} {aa bs : List Bool}
theorem trim_back (hf : faultM (z, l) = 0) (hA : Least (AheadC z l) l.length aa) (hB : Least (BackC l) l.length bs) (T : Nat → Prop) (hT : BackC ((keptL aa bs l.length).map (trimS l (keptL aa bs l.length))) T) :
    ∀ i, i < (keptL aa bs l.length).length → T i := by
  have hp := keptL_sorted aa bs l.length
  have hk : ∀ q, q < l.length → el aa q = true → el bs q = true → ∃ i : Nat, i < (keptL aa bs l.length).length ∧ el (keptL aa bs l.length) i = (q : Int) ∧ placeI (keptL aa bs l.length) (q : Int) = (i : Int) := fun q hq h1 h2 => placeI_mem hp (keptL_iff.2 ⟨hq, h1, h2⟩)
  have key : ∀ q, q < l.length → el bs q = true → (el bs q = true ∧ (el aa q = true → T (placeI (keptL aa bs l.length) (q : Int)).toNat)) := by
    refine hB.2.2 (fun q => el bs q = true ∧ (el aa q = true → T (placeI (keptL aa bs l.length) (q : Int)).toNat)) ⟨?_, ?_⟩
    · intro q hq hz
      have h1 := hB.2.1.1 q hq hz
      refine ⟨h1, fun h2 => ?_⟩
      obtain ⟨i, hi, hei, e⟩ := hk q hq h2 h1
      rw [e]
      refine hT.1 _ (by simpa using hi) ?_
      rw [Int.toNat_natCast, trim_el hi, hei]
      simpa using hz
    · intro q hq d hd h9
      obtain ⟨t, ht, htn⟩ := to_right hf hq hd
      rw [ht] at h9
      simp only [Int.toNat_natCast] at h9
      have h1 : el bs q = true := hB.2.1.2 q hq d hd (by rw [ht]; simpa using h9.1)
      refine ⟨h1, fun h2 => ?_⟩
      have h3 : el aa t = true := by have := hA.2.1.2 q hq h2 d hd; rw [ht] at this; simpa using this
      obtain ⟨i, hi, hei, e⟩ := hk q hq h2 h1
      obtain ⟨j, hj, hej, e2⟩ := hk t htn h3 h9.1
      have h4 := h9.2 h3
      rw [e2] at h4
      rw [e]
      refine hT.2 i (by simpa using hi) (turnA (keptL aa bs l.length) d) (by
        rw [trim_el hi, hei]
        simp only [Int.toNat_natCast]
        exact trimA_in hd (by rw [ht, e2]; omega)) ?_
      simp only [turnA]
      rw [ht, e2]
      exact h4
  intro i hi
  obtain ⟨q, hq, hqn, h1, h2⟩ := keptL_mem (el_mem hi)
  have h3 := (key q hqn h2).2 h1
  rw [← hq, placeI_el hp hi] at h3
  simpa using h3
theorem arcN_cons (s : St) (l : List St) : arcN (s :: l) = s.2.length + arcN l := rfl
theorem trim_arcs (ks : List Int) (n : Nat) (hn : n ≤ l.length) : arcN ((keptL aa bs n).map (trimS l ks)) ≤ arcN (l.take n) := by
  induction n with
  | zero => simp [keptL, arcN]
  | succ n ih =>
    rw [keptL_succ, List.map_append, arcN_append, arcN_take (by omega)]
    have := ih (by omega)
    split
    · have h9 := trimA_le ks (el l n).2
      simp only [List.map_cons, List.map_nil, arcN_cons, arcN, trimS, Int.toNat_natCast]
      omega
    · simp only [List.map_nil, arcN]
      omega
theorem trim_fault (hf : faultM (z, l) = 0) : faultM (trimM z l (keptL aa bs l.length)) = 0 := by
  have hp := keptL_sorted aa bs l.length
  have hle := keptL_le aa bs l.length
  have hsz := right_size hf
  have har := trim_arcs (l := l) (aa := aa) (bs := bs) (keptL aa bs l.length) l.length (Nat.le_refl _)
  rw [List.take_length] at har
  have hpl : ∀ x, -1 ≤ placeI (keptL aa bs l.length) x ∧ placeI (keptL aa bs l.length) x ≤ ((keptL aa bs l.length).length : Int) - 1 := fun x => by
    by_cases e : x ∈ keptL aa bs l.length
    · obtain ⟨i, hi, _, h⟩ := placeI_mem hp e
      rw [h]; omega
    · rw [placeI_not e]; omega
  refine faultM_ok ?_ ?_
  · simp only [sizeB, trimM, Bool.and_eq_true, List.length_map]
    exact ⟨decide_eq_true (by omega), decide_eq_true (by omega)⟩
  · simp only [rangeB, trimM, Bool.and_eq_true, List.length_map, List.all_eq_true]
    refine ⟨by simp only [inB, Bool.and_eq_true, decide_eq_true_eq]; exact hpl z, fun s hs => ?_⟩
    obtain ⟨x, hx, rfl⟩ := List.mem_map.1 hs
    obtain ⟨q, rfl, hq, _, _⟩ := keptL_mem hx
    have h1 := right_st hf hq
    simp only [stB, trimS, Bool.and_eq_true, List.all_eq_true, Int.toNat_natCast]
    refine ⟨h1.1, fun c hc => ?_⟩
    obtain ⟨d, hd, rfl, h0⟩ := trimA_mem hc
    have h2 := List.all_eq_true.1 h1.2 d hd
    have h3 := hpl d.2.2.2
    simp only [arcB, inB, Bool.and_eq_true, decide_eq_true_eq] at h2
    simp only [arcB, turnA, inB, Bool.and_eq_true]
    exact ⟨⟨⟨⟨decide_eq_true (by omega), decide_eq_true (by omega)⟩, ⟨decide_eq_true (by omega), decide_eq_true (by omega)⟩⟩, ⟨decide_eq_true (by omega), decide_eq_true (by omega)⟩⟩, ⟨decide_eq_true h0, decide_eq_true h3.2⟩⟩
theorem trim_ok (hm : okM (z, l)) : okM (trimM z l (keptL aa bs l.length)) := by
  have hle := keptL_le aa bs l.length
  have h1 := hm.1
  have h2 := hm.2
  refine ⟨by simp only [trimM, List.length_map] at h1 ⊢; omega, fun j hj => ?_⟩
  simp only [trimM, List.length_map] at hj ⊢
  rw [trim_el hj]
  obtain ⟨q, e, hq, _, _⟩ := keptL_mem (el_mem hj)
  rw [e]
  have := trimA_le (keptL aa bs l.length) (el l q).2
  have := h2 q hq
  simp only [Int.toNat_natCast] at this ⊢
  omega
theorem all_least {C : (Nat → Prop) → Prop} {n : Nat} (hC : C (fun q => q < n)) (h : ∀ T, C T → ∀ i, i < n → T i) : Least C n (List.replicate n true) :=
  ⟨by simp, by
    have : (fun q => el (List.replicate n true) q = true) = fun q => q < n := by funext q; rw [el_true]
    rw [this]; exact hC, fun T hT q hq _ => h T hT q hq⟩
theorem trim_to (hf : faultM (z, l) = 0) {i : Nat} (hi : i < (keptL aa bs l.length).length) {c : Ar} (hc : c ∈ (el ((keptL aa bs l.length).map (trimS l (keptL aa bs l.length))) i).2) : ∃ t : Nat, c.2.2.2 = (t : Int) ∧ t < (keptL aa bs l.length).length := by
  have h := to_right (trim_fault (aa := aa) (bs := bs) hf) (q := i) (by simpa [trimM] using hi) (d := c) (by simpa [trimM] using hc)
  simpa using h
theorem trim_all_ahead (hf : faultM (z, l) = 0) (hA : Least (AheadC z l) l.length aa) (hB : Least (BackC l) l.length bs) :
    Least (AheadC (placeI (keptL aa bs l.length) z) ((keptL aa bs l.length).map (trimS l (keptL aa bs l.length)))) (keptL aa bs l.length).length (List.replicate (keptL aa bs l.length).length true) := by
  refine all_least ⟨fun q hq _ => by simpa using hq, fun q hq h c hc => ?_⟩ (trim_ahead hf hA hB)
  obtain ⟨t, h1, h2⟩ := trim_to hf (by simpa using hq) hc
  rw [h1]; simpa using h2
theorem trim_all_back (hf : faultM (z, l) = 0) (hA : Least (AheadC z l) l.length aa) (hB : Least (BackC l) l.length bs) :
    Least (BackC ((keptL aa bs l.length).map (trimS l (keptL aa bs l.length)))) (keptL aa bs l.length).length (List.replicate (keptL aa bs l.length).length true) := by
  refine all_least ⟨fun q hq _ => by simpa using hq, fun q hq c hc _ => by simpa using hq⟩ (trim_back hf hA hB)
/-- All numbers below n. -/
theorem kept_all (n : Nat) : keptL (List.replicate n true) (List.replicate n true) n = (List.range n).map fun q : Nat => (q : Int) := by
  unfold keptL
  congr 1
  rw [List.filter_eq_self]
  intro q hq
  have := el_true.2 (List.mem_range.1 hq)
  simp [this]
theorem place_all {n : Nat} {x : Int} (h1 : -1 ≤ x) (h2 : x < n) : placeI ((List.range n).map fun q : Nat => (q : Int)) x = x := by
  have hp : ((List.range n).map fun q : Nat => (q : Int)).Pairwise (· < ·) := by
    have := keptL_sorted (List.replicate n true) (List.replicate n true) n
    rwa [kept_all] at this
  by_cases e : 0 ≤ x
  · have h3 : x.toNat < n := by omega
    have := placeI_el hp (i := x.toNat) (by simpa using h3)
    rw [el_range_map (fun q : Nat => (q : Int)) h3] at this
    rw [show ((x.toNat : Nat) : Int) = x by omega] at this
    exact this
  · rw [placeI_not (by intro h; obtain ⟨q, _, h9⟩ := List.mem_map.1 h; omega)]
    omega
theorem trimA_all {n : Nat} {ar : List Ar} (h : ∀ a ∈ ar, ∃ t : Nat, a.2.2.2 = (t : Int) ∧ t < n) : trimA ((List.range n).map fun q : Nat => (q : Int)) ar = ar := by
  unfold trimA
  have : ar.map (turnA ((List.range n).map fun q : Nat => (q : Int))) = ar := by
    conv => rhs; rw [← List.map_id ar]
    refine List.map_congr_left fun a ha => ?_
    obtain ⟨t, h1, h2⟩ := h a ha
    unfold turnA
    rw [h1, place_all (by omega) (by omega), ← h1]
    rfl
  rw [this, List.filter_eq_self]
  intro a ha
  obtain ⟨t, h1, h2⟩ := h a ha
  simp [h1]
/-- A right machine of which all states are left stays as it is. -/
theorem trim_all (hf : faultM (z, l) = 0) : trimM z l (keptL (List.replicate l.length true) (List.replicate l.length true) l.length) = (z, l) := by
  rw [kept_all]
  unfold trimM
  have hz := (faultM_zero hf).2
  simp only [rangeB, Bool.and_eq_true, inB, decide_eq_true_eq] at hz
  rw [place_all (by omega) (by omega)]
  congr 1
  apply el_ext (by simp)
  intro j hj
  have hj' : j < l.length := by simpa using hj
  rw [el_map (by simpa using hj'), el_range_map (fun q : Nat => (q : Int)) hj']
  unfold trimS
  rw [Int.toNat_natCast, trimA_all (fun a ha => to_right hf hj' ha)]
/-- Where the start is not left, nothing is. -/
theorem trim_start (hA : Least (AheadC z l) l.length aa) (hB : Least (BackC l) l.length bs) : placeI (keptL aa bs l.length) z < 0 ↔ (keptL aa bs l.length).length = 0 := by
  have hp := keptL_sorted aa bs l.length
  constructor
  · intro h
    have hz : z ∉ keptL aa bs l.length := fun h9 => by have := (placeI_nonneg hp).2 h9; omega
    by_cases e : (keptL aa bs l.length).length = 0
    · exact e
    · obtain ⟨q, hq, hqn, h1, h2⟩ := keptL_mem (el_mem (l := keptL aa bs l.length) (j := 0) (by omega))
      have key := hA.2.2 (fun q => el aa q = true ∧ ¬ el bs q = true) ⟨fun q hq h9 => ?_, fun q hq h9 d hd => ?_⟩ q hqn h1
      · exact absurd h2 key.2
      · have h3 := hA.2.1.1 q hq h9
        exact ⟨h3, fun h4 => hz (by rw [← h9]; exact keptL_iff.2 ⟨hq, h3, h4⟩)⟩
      · exact ⟨hA.2.1.2 q hq h9.1 d hd, fun h4 => h9.2 (hB.2.1.2 q hq d hd h4)⟩
  · intro h
    have : keptL aa bs l.length = [] := List.eq_nil_of_length_eq_zero h
    rw [this, placeI_not (by simp)]
    omega
/-- How many arcs lead from a state that is left to one that can end. -/
def cntK (l : List St) (aa bs : List Bool) : Nat → Nat
  | 0 => 0
  | n + 1 => cntK l aa bs n + (if (el aa n && el bs n) = true then (el l n).2.countP (fun a => el bs a.2.2.2.toNat) else 0)
theorem trimA_count {ks : List Int} {p : Ar → Bool} {ar : List Ar} (h : ∀ a ∈ ar, (0 ≤ placeI ks a.2.2.2 ↔ p a = true)) : (trimA ks ar).length = ar.countP p := by
  unfold trimA
  rw [← List.countP_eq_length_filter, List.countP_map]
  refine List.countP_congr fun a ha => ?_
  simp only [Function.comp, turnA]
  exact decide_eq_true_iff.trans (h a ha)
theorem trim_count (hf : faultM (z, l) = 0) (hA : Least (AheadC z l) l.length aa) (n : Nat) (hn : n ≤ l.length) : arcN ((keptL aa bs n).map (trimS l (keptL aa bs l.length))) = cntK l aa bs n := by
  induction n with
  | zero => simp [keptL, arcN, cntK]
  | succ n ih =>
    rw [keptL_succ, List.map_append, arcN_append, ih (by omega), cntK]
    split
    · rename_i hk
      simp only [Bool.and_eq_true] at hk
      simp only [List.map_cons, List.map_nil, arcN_cons, arcN, trimS, Int.toNat_natCast, Nat.add_zero]
      rw [trimA_count (p := fun a => el bs a.2.2.2.toNat)]
      intro a ha
      obtain ⟨t, h1, h2⟩ := to_right hf (q := n) (by omega) ha
      have h3 := hA.2.1.2 n (by omega) hk.1 a ha
      rw [placeI_nonneg (keptL_sorted aa bs l.length)]
      rw [h1] at h3 ⊢
      simp only [Int.toNat_natCast] at h3 ⊢
      rw [keptL_iff]
      exact ⟨fun h => h.2.2, fun h => ⟨h2, h3, h⟩⟩
    · simp [arcN]
end
end Go.Proofs.Ytfkiiedbcjbkiaa.Pl
