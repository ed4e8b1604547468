/- What trimming leaves: places, and that all that is left lies on a path (no program in sight). -/
import Derived.Test.YtfhjncpakgailaaGreatDoorPai
import Derived.WalkKit
import Derived.Test.YtfhjncpakgailaaGreatDoorPah
import Derived.Lib.ItoaNum
import Derived.Lib.ItoaLen
namespace Go.Proofs.YtfhjncpakgailaaGreatDoor.Pl
theorem keptL_sorted (a b : List Bool) (n : Nat) : (keptL a b n).Pairwise (· < ·) := by
 unfold keptL
 rw [List.pairwise_map]
 refine (List.Pairwise.filter _ (List.pairwise_lt_range (n := n))).imp ?_
 intro x y h
 omega
theorem keptL_iff {a b : List Bool} {n q : Nat} : (q : Int) ∈ keptL a b n ↔ q < n ∧ el a q = true ∧ el b q = true := by
 constructor
 ·intro h
  obtain ⟨p, h1, h2, h3, h4⟩ := keptL_mem h
  obtain rfl : q = p := by omega
  exact ⟨h2, h3, h4⟩
 ·rintro ⟨h1, h2, h3⟩
  unfold keptL
  simp only [List.mem_map, List.mem_filter, List.mem_range, Bool.and_eq_true]
  exact ⟨q, ⟨h1, h2, h3⟩, rfl⟩
theorem placeI_el {ks : List Int} (hp : ks.Pairwise (· < ·)) {i : Nat} (hi : i < ks.length) : placeI ks (el ks i) = (i : Int) := by
 refine placeI_at hi (fun j hj => ?_) rfl
 have := List.pairwise_iff_getElem.1 hp j i (by omega) hi hj
 rw [el_get hi, el_get (by omega)]
 omega
theorem placeI_mem {ks : List Int} (hp : ks.Pairwise (· < ·)) {x : Int} (h : x ∈ ks) : ∃ i : Nat, i < ks.length ∧ el ks i = x ∧ placeI ks x = (i : Int) := by
 obtain ⟨i, hi, rfl⟩ := mem_el h
 exact ⟨i, hi, rfl, placeI_el hp hi⟩
theorem placeI_not {ks : List Int} {x : Int} (h : x ∉ ks) : placeI ks x = -1 := placeI_none (fun _ hj e => h (e ▸ el_mem hj))
theorem placeI_nonneg {ks : List Int} (hp : ks.Pairwise (· < ·)) {x : Int} : 0 ≤ placeI ks x ↔ x ∈ ks := by
 constructor
 ·intro h
  by_cases e : x ∈ ks
  ·exact e
  ·rw [placeI_not e] at h; omega
 ·intro h
  obtain ⟨i, _, _, e⟩ := placeI_mem hp h
  rw [e]; omega
section
variable {z : Int} {l : List St} {aa bs : List Bool}
theorem trim_el {ks : List Int} {i : Nat} (hi : i < ks.length) : el (ks.map (trimS l ks)) i = ((el l (el ks i).toNat).1, trimA ks (el l (el ks i).toNat).2) := by
 rw [el_map hi]; rfl
theorem trimA_mem {ks : List Int} {ar : List Ar} {c : Ar} (h : c ∈ trimA ks ar) : ∃ d ∈ ar, c = turnA ks d ∧ 0 ≤ placeI ks d.2.2.2 := by
 unfold trimA at h
 simp only [List.mem_filter, List.mem_map, decide_eq_true_eq] at h
 obtain ⟨⟨d, hd, rfl⟩, h0⟩ := h
 exact ⟨d, hd, rfl, h0⟩
theorem trimA_in {ks : List Int} {ar : List Ar} {d : Ar} (hd : d ∈ ar) (h0 : 0 ≤ placeI ks d.2.2.2) : turnA ks d ∈ trimA ks ar := by
 unfold trimA
 simp only [List.mem_filter, List.mem_map, decide_eq_true_eq]
 exact ⟨⟨d, hd, rfl⟩, h0⟩
theorem el_true {n j : Nat} : el (List.replicate n true) j = true ↔ j < n := by
 unfold el
 rw [List.getElem?_replicate]
 split
 ·rename_i h; simp [h]
 ·rename_i h; simp [h]
theorem to_right (hf : faultM (z, l) = 0) {q : Nat} (hq : q < l.length) {d : Ar} (hd : d ∈ (el l q).2) : ∃ t : Nat, d.2.2.2 = (t : Int) ∧ t < l.length := by
 have h := List.all_eq_true.1 (right_st hf hq).2 d hd
 simp only [arcB, inB, Bool.and_eq_true, decide_eq_true_eq] at h
 exact ⟨d.2.2.2.toNat, by omega, by omega⟩
theorem trim_ahead (hf : faultM (z, l) = 0) (hA : Least (AheadC z l) l.length aa) (hB : Least (BackC l) l.length bs) (T : Nat → Prop) (hT : AheadC (placeI (keptL aa bs l.length) z) ((keptL aa bs l.length).map (trimS l (keptL aa bs l.length))) T) :
  ∀ i, i < (keptL aa bs l.length).length → T i := by
 have hp := keptL_sorted aa bs l.length
 have hk : ∀ q, q < l.length → el aa q = true → el bs q = true → ∃ i : Nat, i < (keptL aa bs l.length).length ∧ el (keptL aa bs l.length) i = (q : Int) ∧ placeI (keptL aa bs l.length) (q : Int) = (i : Int) := fun q hq h1 h2 => placeI_mem hp (keptL_iff.2 ⟨hq, h1, h2⟩)
 have key : ∀ q, q < l.length → el aa q = true → (el aa q = true ∧ (el bs q = true → T (placeI (keptL aa bs l.length) (q : Int)).toNat)) := by
  refine hA.2.2 (fun q => el aa q = true ∧ (el bs q = true → T (placeI (keptL aa bs l.length) (q : Int)).toNat)) ⟨?_, ?_⟩
  ·intro q hq hz
   have h1 := hA.2.1.1 q hq hz
   refine ⟨h1, fun h2 => ?_⟩
   obtain ⟨i, hi, _, e⟩ := hk q hq h1 h2
   rw [e]
   refine hT.1 _ (by simpa using hi) ?_
   rw [← hz, e]; simp
  ·intro q hq h9 d hd
   obtain ⟨t, ht, htn⟩ := to_right hf hq hd
   have h1 := hA.2.1.2 q hq h9.1 d hd
   rw [ht] at h1 ⊢
   simp only [Int.toNat_natCast] at h1 ⊢
   refine ⟨h1, fun h2 => ?_⟩
   have hbq : el bs q = true := hB.2.1.2 q hq d hd (by rw [ht]; simpa using h2)
   obtain ⟨i, hi, hei, e⟩ := hk q hq h9.1 hbq
   obtain ⟨j, hj, hej, e2⟩ := hk t htn h1 h2
   have h3 := h9.2 hbq
   rw [e] at h3
   have h4 := hT.2 i (by simpa using hi) (by simpa using h3) (turnA (keptL aa bs l.length) d) (by
    rw [trim_el hi, hei]
    simp only [Int.toNat_natCast]
    exact trimA_in hd (by rw [ht, e2]; omega))
   simp only [turnA] at h4
   rw [ht] at h4
   exact h4
 intro i hi
 obtain ⟨q, hq, hqn, h1, h2⟩ := keptL_mem (el_mem hi)
 have h3 := (key q hqn h1).2 h2
 rw [← hq, placeI_el hp hi] at h3
 simpa using h3
end
section
variable {z : Int} {l : List St} {aa bs : List Bool}
theorem trim_back (hf : faultM (z, l) = 0) (hA : Least (AheadC z l) l.length aa) (hB : Least (BackC l) l.length bs) (T : Nat → Prop) (hT : BackC ((keptL aa bs l.length).map (trimS l (keptL aa bs l.length))) T) :
  ∀ i, i < (keptL aa bs l.length).length → T i := by
 have hp := keptL_sorted aa bs l.length
 have hk : ∀ q, q < l.length → el aa q = true → el bs q = true → ∃ i : Nat, i < (keptL aa bs l.length).length ∧ el (keptL aa bs l.length) i = (q : Int) ∧ placeI (keptL aa bs l.length) (q : Int) = (i : Int) := fun q hq h1 h2 => placeI_mem hp (keptL_iff.2 ⟨hq, h1, h2⟩)
 have key : ∀ q, q < l.length → el bs q = true → (el bs q = true ∧ (el aa q = true → T (placeI (keptL aa bs l.length) (q : Int)).toNat)) := by
  refine hB.2.2 (fun q => el bs q = true ∧ (el aa q = true → T (placeI (keptL aa bs l.length) (q : Int)).toNat)) ⟨?_, ?_⟩
  ·intro q hq hz
   have h1 := hB.2.1.1 q hq hz
   refine ⟨h1, fun h2 => ?_⟩
   obtain ⟨i, hi, hei, e⟩ := hk q hq h2 h1
   rw [e]
   refine hT.1 _ (by simpa using hi) ?_
   rw [Int.toNat_natCast, trim_el hi, hei]
   simpa using hz
  ·intro q hq d hd h9
   obtain ⟨t, ht, htn⟩ := to_right hf hq hd
   rw [ht] at h9
   simp only [Int.toNat_natCast] at h9
   have h1 : el bs q = true := hB.2.1.2 q hq d hd (by rw [ht]; simpa using h9.1)
   refine ⟨h1, fun h2 => ?_⟩
   have h3 : el aa t = true := by have := hA.2.1.2 q hq h2 d hd; rw [ht] at this; simpa using this
   obtain ⟨i, hi, hei, e⟩ := hk q hq h2 h1
   obtain ⟨j, hj, hej, e2⟩ := hk t htn h3 h9.1
   have h4 := h9.2 h3
   rw [e2] at h4
   rw [e]
   refine hT.2 i (by simpa using hi) (turnA (keptL aa bs l.length) d) (by
    rw [trim_el hi, hei]
    simp only [Int.toNat_natCast]
    exact trimA_in hd (by rw [ht, e2]; omega)) ?_
   simp only [turnA]
   rw [ht, e2]
   exact h4
 intro i hi
 obtain ⟨q, hq, hqn, h1, h2⟩ := keptL_mem (el_mem hi)
 have h3 := (key q hqn h2).2 h1
 rw [← hq, placeI_el hp hi] at h3
 simpa using h3
theorem arcN_cons (s : St) (l : List St) : arcN (s :: l) = s.2.length + arcN l := rfl
theorem trim_arcs (ks : List Int) (n : Nat) (hn : n ≤ l.length) : arcN ((keptL aa bs n).map (trimS l ks)) ≤ arcN (l.take n) := by
  induction n with
  | zero => simp [keptL, arcN]
  | succ n ih =>
    rw [keptL_succ, List.map_append, arcN_append, arcN_take (by omega)]
    have := ih (by omega)
    split
    · have h9 := trimA_le ks (el l n).2
      simp only [List.map_cons, List.map_nil, arcN_cons, arcN, trimS, Int.toNat_natCast]
      omega
    · simp only [List.map_nil, arcN]
      omega
theorem trim_fault (hf : faultM (z, l) = 0) : faultM (trimM z l (keptL aa bs l.length)) = 0 := by
 have hp := keptL_sorted aa bs l.length
 have hle := keptL_le aa bs l.length
 have hsz := right_size hf
 have har := trim_arcs (l := l) (aa := aa) (bs := bs) (keptL aa bs l.length) l.length (Nat.le_refl _)
 rw [List.take_length] at har
 have hpl : ∀ x, -1 ≤ placeI (keptL aa bs l.length) x ∧ placeI (keptL aa bs l.length) x ≤ ((keptL aa bs l.length).length : Int) - 1 := fun x => by
  by_cases e : x ∈ keptL aa bs l.length
  ·obtain ⟨i, hi, _, h⟩ := placeI_mem hp e
   rw [h]; omega
  ·rw [placeI_not e]; omega
 refine faultM_ok ?_ ?_
 ·simp only [sizeB, trimM, Bool.and_eq_true, List.length_map]
  exact ⟨decide_eq_true (by omega), decide_eq_true (by omega)⟩
 ·simp only [rangeB, trimM, Bool.and_eq_true, List.length_map, List.all_eq_true]
  refine ⟨by simp only [inB, Bool.and_eq_true, decide_eq_true_eq]; exact hpl z, fun s hs => ?_⟩
  obtain ⟨x, hx, rfl⟩ := List.mem_map.1 hs
  obtain ⟨q, rfl, hq, _, _⟩ := keptL_mem hx
  have h1 := right_st hf hq
  simp only [stB, trimS, Bool.and_eq_true, List.all_eq_true, Int.toNat_natCast]
  refine ⟨h1.1, fun c hc => ?_⟩
  obtain ⟨d, hd, rfl, h0⟩ := trimA_mem hc
  have h2 := List.all_eq_true.1 h1.2 d hd
  have h3 := hpl d.2.2.2
  simp only [arcB, inB, Bool.and_eq_true, decide_eq_true_eq] at h2
  simp only [arcB, turnA, inB, Bool.and_eq_true]
  exact ⟨⟨⟨⟨decide_eq_true (by omega), decide_eq_true (by omega)⟩, ⟨decide_eq_true (by omega), decide_eq_true (by omega)⟩⟩, ⟨decide_eq_true (by omega), decide_eq_true (by omega)⟩⟩, ⟨decide_eq_true h0, decide_eq_true h3.2⟩⟩
theorem trim_ok (hm : okM (z, l)) : okM (trimM z l (keptL aa bs l.length)) := by
 have hle := keptL_le aa bs l.length
 have h1 := hm.1
 have h2 := hm.2
 refine ⟨by simp only [trimM, List.length_map] at h1 ⊢; omega, fun j hj => ?_⟩
 simp only [trimM, List.length_map] at hj ⊢
 rw [trim_el hj]
 obtain ⟨q, e, hq, _, _⟩ := keptL_mem (el_mem hj)
 rw [e]
 have := trimA_le (keptL aa bs l.length) (el l q).2
 have := h2 q hq
 simp only [Int.toNat_natCast] at this ⊢
 omega
theorem all_least {C : (Nat → Prop) → Prop} {n : Nat} (hC : C (fun q => q < n)) (h : ∀ T, C T → ∀ i, i < n → T i) : Least C n (List.replicate n true) :=
 ⟨by simp, by
  have : (fun q => el (List.replicate n true) q = true) = fun q => q < n := by funext q; rw [el_true]
  rw [this]; exact hC, fun T hT q hq _ => h T hT q hq⟩
theorem trim_to (hf : faultM (z, l) = 0) {i : Nat} (hi : i < (keptL aa bs l.length).length) {c : Ar} (hc : c ∈ (el ((keptL aa bs l.length).map (trimS l (keptL aa bs l.length))) i).2) : ∃ t : Nat, c.2.2.2 = (t : Int) ∧ t < (keptL aa bs l.length).length := by
 have h := to_right (trim_fault (aa := aa) (bs := bs) hf) (q := i) (by simpa [trimM] using hi) (d := c) (by simpa [trimM] using hc)
 simpa using h
theorem trim_all_ahead (hf : faultM (z, l) = 0) (hA : Least (AheadC z l) l.length aa) (hB : Least (BackC l) l.length bs) :
  Least (AheadC (placeI (keptL aa bs l.length) z) ((keptL aa bs l.length).map (trimS l (keptL aa bs l.length)))) (keptL aa bs l.length).length (List.replicate (keptL aa bs l.length).length true) := by
 refine all_least ⟨fun q hq _ => by simpa using hq, fun q hq h c hc => ?_⟩ (trim_ahead hf hA hB)
 obtain ⟨t, h1, h2⟩ := trim_to hf (by simpa using hq) hc
 rw [h1]; simpa using h2
theorem trim_all_back (hf : faultM (z, l) = 0) (hA : Least (AheadC z l) l.length aa) (hB : Least (BackC l) l.length bs) :
  Least (BackC ((keptL aa bs l.length).map (trimS l (keptL aa bs l.length)))) (keptL aa bs l.length).length (List.replicate (keptL aa bs l.length).length true) := by
 refine all_least ⟨fun q hq _ => by simpa using hq, fun q hq c hc _ => by simpa using hq⟩ (trim_back hf hA hB)
theorem kept_all (n : Nat) : keptL (List.replicate n true) (List.replicate n true) n = (List.range n).map fun q : Nat => (q : Int) := by
 unfold keptL
 congr 1
 rw [List.filter_eq_self]
 intro q hq
 have := el_true.2 (List.mem_range.1 hq)
 simp [this]
theorem place_all {n : Nat} {x : Int} (h1 : -1 ≤ x) (h2 : x < n) : placeI ((List.range n).map fun q : Nat => (q : Int)) x = x := by
 have hp : ((List.range n).map fun q : Nat => (q : Int)).Pairwise (· < ·) := by
  have := keptL_sorted (List.replicate n true) (List.replicate n true) n
  rwa [kept_all] at this
 by_cases e : 0 ≤ x
 ·have h3 : x.toNat < n := by omega
  have := placeI_el hp (i := x.toNat) (by simpa using h3)
  rw [el_range_map (fun q : Nat => (q : Int)) h3] at this
  rw [show ((x.toNat : Nat) : Int) = x by omega] at this
  exact this
 ·rw [placeI_not (by intro h; obtain ⟨q, _, h9⟩ := List.mem_map.1 h; omega)]
  omega
theorem trimA_all {n : Nat} {ar : List Ar} (h : ∀ a ∈ ar, ∃ t : Nat, a.2.2.2 = (t : Int) ∧ t < n) : trimA ((List.range n).map fun q : Nat => (q : Int)) ar = ar := by
 unfold trimA
 have : ar.map (turnA ((List.range n).map fun q : Nat => (q : Int))) = ar := by
  conv => rhs; rw [← List.map_id ar]
  refine List.map_congr_left fun a ha => ?_
  obtain ⟨t, h1, h2⟩ := h a ha
  unfold turnA
  rw [h1, place_all (by omega) (by omega), ← h1]
  rfl
 rw [this, List.filter_eq_self]
 intro a ha
 obtain ⟨t, h1, h2⟩ := h a ha
 simp [h1]
theorem trim_all (hf : faultM (z, l) = 0) : trimM z l (keptL (List.replicate l.length true) (List.replicate l.length true) l.length) = (z, l) := by
 rw [kept_all]
 unfold trimM
 have hz := (faultM_zero hf).2
 simp only [rangeB, Bool.and_eq_true, inB, decide_eq_true_eq] at hz
 rw [place_all (by omega) (by omega)]
 congr 1
 apply el_ext (by simp)
 intro j hj
 have hj' : j < l.length := by simpa using hj
 rw [el_map (by simpa using hj'), el_range_map (fun q : Nat => (q : Int)) hj']
 unfold trimS
 rw [Int.toNat_natCast, trimA_all (fun a ha => to_right hf hj' ha)]
theorem trim_start (hA : Least (AheadC z l) l.length aa) (hB : Least (BackC l) l.length bs) : placeI (keptL aa bs l.length) z < 0 ↔ (keptL aa bs l.length).length = 0 := by
 have hp := keptL_sorted aa bs l.length
 constructor
 ·intro h
  have hz : z ∉ keptL aa bs l.length := fun h9 => by have := (placeI_nonneg hp).2 h9; omega
  by_cases e : (keptL aa bs l.length).length = 0
  ·exact e
  ·obtain ⟨q, hq, hqn, h1, h2⟩ := keptL_mem (el_mem (l := keptL aa bs l.length) (j := 0) (by omega))
   have key := hA.2.2 (fun q => el aa q = true ∧ ¬ el bs q = true) ⟨fun q hq h9 => ?_, fun q hq h9 d hd => ?_⟩ q hqn h1
   ·exact absurd h2 key.2
   ·have h3 := hA.2.1.1 q hq h9
    exact ⟨h3, fun h4 => hz (by rw [← h9]; exact keptL_iff.2 ⟨hq, h3, h4⟩)⟩
   ·exact ⟨hA.2.1.2 q hq h9.1 d hd, fun h4 => h9.2 (hB.2.1.2 q hq d hd h4)⟩
 ·intro h
  have : keptL aa bs l.length = [] := List.eq_nil_of_length_eq_zero h
  rw [this, placeI_not (by simp)]
  omega
end
theorem trimmed_facts {z : Int} {l : List St} {aa bs : List Bool} (hf : faultM (z, l) = 0) (hA : Least (AheadC z l) l.length aa) (hB : Least (BackC l) l.length bs) :
    ∃ (tz : Int) (tl : List St), trimM z l (keptL aa bs l.length) = (tz, tl) ∧ faultM (tz, tl) = 0 ∧ (∀ a, Least (AheadC tz tl) tl.length a → a = List.replicate tl.length true) ∧ (∀ b, Least (BackC tl) tl.length b → b = List.replicate tl.length true) ∧
      (∀ a b, Least (AheadC tz tl) tl.length a → Least (BackC tl) tl.length b → trimM tz tl (keptL a b tl.length) = (tz, tl)) ∧ (tz < 0 ↔ tl.length = 0) ∧ tl.length ≤ l.length := by
  have hl : ((keptL aa bs l.length).map (trimS l (keptL aa bs l.length))).length = (keptL aa bs l.length).length := List.length_map _
  have h1 := trim_all_ahead hf hA hB
  have h2 := trim_all_back hf hA hB
  have h3 := trim_fault (aa := aa) (bs := bs) hf
  have h4 := trim_start hA hB
  rw [← hl] at h1 h2 h4
  refine ⟨_, _, rfl, h3, fun a ha => ha.one h1, fun b hb => hb.one h2, fun a b ha hb => ?_, h4, by rw [hl]; exact keptL_le _ _ _⟩
  rw [ha.one h1, hb.one h2]
  exact trim_all h3
end Go.Proofs.YtfhjncpakgailaaGreatDoor.Pl
namespace Go.Proofs.YtfhjncpakgailaaGreatDoor.Pl
set_option linter.unusedVariables false
set_option linter.unusedSimpArgs false
theorem arc_rightP {m : Mc} (h : faultM m = 0) {q : Nat} (hq : q < m.2.length) {a : Ar} (ha : a ∈ (el m.2 q).2) : 0 ≤ a.1 ∧ a.1 ≤ 1000 ∧ 0 ≤ a.2.1 ∧ a.2.1 ≤ 1000 ∧ 0 ≤ a.2.2.1 ∧ a.2.2.1 ≤ 1000000000 ∧ ∃ t : Nat, a.2.2.2 = (t : Int) ∧ t < m.2.length := by
 obtain ⟨z, l⟩ := m
 simp only at hq ha ⊢
 have h1 := (right_st h hq).2
 rw [List.all_eq_true] at h1
 have h2 := h1 a ha
 simp only [arcB, Bool.and_eq_true, inB, decide_eq_true_eq] at h2
 exact ⟨by omega, by omega, by omega, by omega, by omega, by omega, a.2.2.2.toNat, by omega, by omega⟩
theorem end_all {m : Mc} (hf : faultM m = 0) {bs : List Bool} (hB : Least (BackC m.2) m.2.length bs) {q : Nat} (hq : q < m.2.length) (h : el bs q = true) : ∃ c, EndC m.2 q c := by
 refine hB.2.2 (fun q => ∃ c, EndC m.2 q c) ⟨fun q hq hn => ⟨_, 0, q, 0, .nil, hq, hn, rfl⟩, fun q hq a ha => ?_⟩ q hq h
 rintro ⟨c, n, p, d, hr, hp, hn, rfl⟩
 obtain ⟨_, _, _, _, _, _, t, e1, e2⟩ := arc_rightP hf hq ha
 rw [e1, Int.toNat_natCast] at hr
 exact ⟨_, n + 1, p, a.2.2.1.toNat + d, Run.first ⟨a, ha, e1, rfl⟩ hr, hp, hn, rfl⟩
theorem pot_of {m : Mc} {vs : List Int} (hf : faultM m = 0) (hall : ∀ q, q < m.2.length → ∃ c, EndC m.2 q c) (hD : DstAns m (EndC m.2) vs 0) : Pot m.2 vs ∧ ∀ q, q < m.2.length → LeastP (EndC m.2 q) (el vs q).toNat := by
 have hL : vs.length = m.2.length ∧ ∀ q, q < m.2.length → ∃ c : Nat, LeastP (EndC m.2 q) c ∧ c ≤ 1000000000 ∧ el vs q = (c : Int) := by
  rcases hD with ⟨h0, _⟩ | ⟨_, ⟨_, h1, h2⟩ | ⟨h1, _⟩⟩
  ·exact absurd hf h0
  ·refine ⟨h1, fun q hq => ?_⟩
   rcases h2 q hq with ⟨k, _⟩ | ⟨c, hc, ⟨k1, k2, _⟩ | ⟨_, _, k⟩⟩
   ·obtain ⟨c, hc⟩ := hall q hq
    exact absurd hc (k c)
   ·exact ⟨c, hc, k1, k2⟩
   ·cases k
  ·cases h1
 refine ⟨⟨hL.1, fun q hq => ?_, fun q hq a ha => ?_, fun q hq hn => ?_⟩, fun q hq => ?_⟩
 ·obtain ⟨c, _, h2, h3⟩ := hL.2 q hq
  omega
 ·obtain ⟨_, _, _, _, h5, _, t, e1, e2⟩ := arc_rightP hf hq ha
  obtain ⟨c, h1, h2, h3⟩ := hL.2 q hq
  obtain ⟨d, k1, k2, k3⟩ := hL.2 t e2
  refine ⟨t, e1, e2, h5, ?_⟩
  obtain ⟨n, p, d0, hr, hp, hn, e⟩ := k1.1
  have := h1.2 (a.2.2.1.toNat + d) ⟨n + 1, p, a.2.2.1.toNat + d0, Run.first ⟨a, ha, e1, rfl⟩ hr, hp, hn, by omega⟩
  omega
 ·obtain ⟨c, h1, h2, h3⟩ := hL.2 q hq
  obtain ⟨f1, f2⟩ := fin_small hf hq hn
  have := h1.2 _ ⟨0, q, 0, .nil, hq, hn, rfl⟩
  omega
 ·obtain ⟨c, h1, h2, h3⟩ := hL.2 q hq
  rw [h3, Int.toNat_natCast]
  exact h1
theorem psh_arcN (vs : List Int) (l : List St) : arcN (pshL vs l) = arcN l := by
  have key : ∀ n, n ≤ l.length → arcN ((List.range n).map (pshS vs l)) = arcN (l.take n) := by
    intro n
    induction n with
    | zero => intro _; simp [arcN]
    | succ n ih =>
      intro hn
      rw [List.range_succ, List.map_append, arcN_append, ih (by omega), arcN_take (by omega)]
      simp [arcN, pshS]
  have := key l.length (Nat.le_refl _)
  rwa [List.take_of_length_le (Nat.le_refl _)] at this
theorem psh_over {vs : List Int} {l : List St} (h : pshO vs l = false) {q : Nat} (hq : q < l.length) {a : Ar} (ha : a ∈ (el l q).2) : (pshA vs q a).2.2.1 ≤ 1000000000 := by
 unfold pshO at h
 rw [List.any_eq_false] at h
 have h1 := h q (List.mem_range.2 hq)
 rw [Bool.not_eq_true, List.any_eq_false] at h1
 have h2 := h1 a ha
 simpa using h2
theorem psh_right {m : Mc} {vs : List Int} (hf : faultM m = 0) (hP : Pot m.2 vs) (hO : pshO vs m.2 = false) : faultM (pshM vs m) = 0 := by
 obtain ⟨h1, h2⟩ := faultM_zero hf
 refine faultM_ok ?_ ?_
 ·simp only [sizeB, pshM, psh_length, psh_arcN] at h1 ⊢
  exact h1
 ·simp only [rangeB, pshM, psh_length, Bool.and_eq_true] at h2 ⊢
  refine ⟨h2.1, ?_⟩
  rw [List.all_eq_true]
  intro s hs
  obtain ⟨q, hq, rfl⟩ := List.mem_map.1 hs
  rw [List.mem_range] at hq
  have g1 := hP.nn q hq
  unfold stB
  rw [Bool.and_eq_true]
  constructor
  ·simp only [pshS, pshF]
   by_cases hn : (el m.2 q).1 = 1000000001
   ·rw [if_pos hn]; rfl
   ·rw [if_neg hn]
    have := hP.fin q hq hn
    simp [finB, inB]
    omega
  ·rw [List.all_eq_true]
   intro b hb
   simp only [pshS] at hb
   obtain ⟨a, ha, rfl⟩ := List.mem_map.1 hb
   have k1 := psh_over hO hq ha
   obtain ⟨t, e1, e2, e3, e4⟩ := hP.arc q hq a ha
   obtain ⟨r1, r2, r3, r4, _, _, _⟩ := arc_rightP hf hq ha
   have k2 : (pshA vs q a).2.2.1 = a.2.2.1 + el vs t - el vs q := by simp only [pshA]; rw [e1, Int.toNat_natCast]
   have k3 := (hP.nn t e2).1
   simp only [arcB, Bool.and_eq_true, inB, decide_eq_true_eq]
   refine ⟨⟨⟨⟨r1, r2⟩, r3, r4⟩, by omega, k1⟩, ?_⟩
   simp only [pshA]
   omega
structure SetN (n : Nat) (B : Int) (S : List Int) : Prop where
 len : S.length = n
 rng : ∀ q, q < n → el S q = noneI ∨ (0 ≤ el S q ∧ el S q ≤ B)
theorem iniS_el {n z q : Nat} (hz : z < n) (hq : q < n) : el (iniS n z) q = if q = z then 0 else noneI := by
 unfold iniS
 rw [el_setT (by simpa using hz)]
 split
 ·rfl
 ·rw [el_get (by simpa using hq)]; simp
theorem iniS_set {n z : Nat} (hz : z < n) : SetN n 0 (iniS n z) := by
 refine ⟨by simp [iniS], fun q hq => ?_⟩
 rw [iniS_el hz hq]
 split
 ·exact .inr ⟨Int.le_refl _, Int.le_refl _⟩
 ·exact .inl rfl
section
variable {m : Mc} {S : List Int} {B : Int}
theorem arc_low {m : Mc} (hf : faultM m = 0) {q : Nat} (hq : q < m.2.length) {a : Ar} (ha : a ∈ (el m.2 q).2) : 0 ≤ a.2.2.1 ∧ a.2.2.1 ≤ 1000000000 ∧ ∃ t : Nat, a.2.2.2 = (t : Int) ∧ t < m.2.length := by
 obtain ⟨_, _, _, _, h5, h6, h7⟩ := arc_rightP hf hq ha
 exact ⟨h5, h6, h7⟩
theorem cos_low (hf : faultM m = 0) (hS : SetN m.2.length B S) {W : Int} (hw : ∀ q a, a ∈ (el m.2 q).2 → a.2.2.1 ≤ W) {i o : Int} {p : Nat} {c : Int} (h : c ∈ cosL m.2 S i o p) : 0 ≤ c ∧ c ≤ B + W := by
 obtain ⟨q, hq, h1, a, ha, _, _, _, rfl⟩ := mem_cosL.1 h
 have h2 := (arc_low hf hq ha).1
 have h3 := hw q a ha
 rcases hS.rng q hq with h4 | h4
 ·exact absurd h4 h1
 ·omega
theorem beh_el {l : List St} {S : List Int} {i o : Int} {p : Nat} (hp : p < l.length) : el (behL l S i o) p = mnL (cosL l S i o p) := el_range_map _ hp
theorem beh_len (l : List St) (S : List Int) (i o : Int) : (behL l S i o).length = l.length := by simp [behL]
theorem sub_el {N : List Int} {w : Int} {p : Nat} (hp : p < N.length) : el (subS N w) p = if el N p = noneI then noneI else el N p - w := by
 unfold subS
 rw [el_get (by simpa using hp), List.getElem_map, ← el_get hp]
theorem hop_facts (hf : faultM m = 0) (hS : SetN m.2.length B S) {W : Int} (hw : ∀ q a, a ∈ (el m.2 q).2 → a.2.2.1 ≤ W) (hB : B + W < noneI) {p : Int × Int} (hp : p ∈ prsL m.2 S) :
  0 ≤ (hopC m.2 S p).2.2.1 ∧ (hopC m.2 S p).2.2.1 ≤ B + W ∧ SetN m.2.length (B + W) (hopC m.2 S p).2.2.2 ∧
  (∀ t, t < m.2.length → el (hopC m.2 S p).2.2.2 t ≠ noneI → ∃ q, q < m.2.length ∧ el S q ≠ noneI ∧ ∃ a ∈ (el m.2 q).2, a.1 = p.1 ∧ a.2.1 = p.2 ∧ a.2.2.2 = (t : Int) ∧ (hopC m.2 S p).2.2.1 + el (hopC m.2 S p).2.2.2 t = el S q + a.2.2.1) ∧
  (∀ q, q < m.2.length → el S q ≠ noneI → ∀ a ∈ (el m.2 q).2, a.1 = p.1 → a.2.1 = p.2 → ∀ t : Nat, a.2.2.2 = (t : Int) → el (hopC m.2 S p).2.2.2 t ≠ noneI ∧ (hopC m.2 S p).2.2.1 + el (hopC m.2 S p).2.2.2 t ≤ el S q + a.2.2.1) := by
 have hcl : ∀ t c, c ∈ cosL m.2 S p.1 p.2 t → 0 ≤ c ∧ c ≤ B + W := fun t c h => cos_low hf hS hw h
 have hce : ∀ t, mnL (cosL m.2 S p.1 p.2 t) = noneI ∨ (mnL (cosL m.2 S p.1 p.2 t) ∈ cosL m.2 S p.1 p.2 t ∧ 0 ≤ mnL (cosL m.2 S p.1 p.2 t) ∧ mnL (cosL m.2 S p.1 p.2 t) ≤ B + W) := fun t => by
  rcases mnL_mem (cosL m.2 S p.1 p.2 t) with h | h
  ·exact .inl h
  ·exact .inr ⟨h, hcl t _ h⟩
 obtain ⟨N, hN⟩ : ∃ N, behL m.2 S p.1 p.2 = N := ⟨_, rfl⟩
 have hlen : N.length = m.2.length := by rw [← hN]; exact beh_len _ _ _ _
 have hel : ∀ t, t < m.2.length → el N t = mnL (cosL m.2 S p.1 p.2 t) := fun t ht => by rw [← hN]; exact beh_el ht
 have hmem : ∀ c ∈ N, ∃ t, t < m.2.length ∧ c = el N t := fun c hc => by
  obtain ⟨t, ht, e⟩ := List.getElem_of_mem hc
  exact ⟨t, by omega, by rw [el_get ht]; exact e.symm⟩
 -- one of them is had
 obtain ⟨q0, hq0, hs0, a0, ha0, e0⟩ := mem_prsL.1 hp
 obtain ⟨_, _, t0, ht0, hl0⟩ := arc_low hf hq0 ha0
 have hc0 : el S q0 + a0.2.2.1 ∈ cosL m.2 S p.1 p.2 t0 := mem_cosL.2 ⟨q0, hq0, hs0, a0, ha0, by rw [← e0], by rw [← e0], ht0, rfl⟩
 have hn0 : el N t0 ≠ noneI := by
  rw [hel t0 hl0]
  intro e
  have := mnL_le hc0
  have := hcl t0 _ hc0
  omega
 have hin0 : el N t0 ∈ N := el_mem (by omega)
 have hlow : ∀ c ∈ N, c = noneI ∨ (0 ≤ c ∧ c ≤ B + W) := fun c hc => by
  obtain ⟨t, ht, rfl⟩ := hmem c hc
  rw [hel t ht]
  rcases hce t with h | h
  ·exact .inl h
  ·exact .inr h.2
 have hw0 : mnL N ≠ noneI ∧ 0 ≤ mnL N ∧ mnL N ≤ B + W := by
  have h1 := mnL_le hin0
  rcases hlow _ hin0 with h | h
  ·exact absurd h hn0
  ·rcases mnL_mem N with g | g
   ·omega
   ·rcases hlow _ g with k | k
    ·omega
    ·exact ⟨by omega, k⟩
 unfold hopC
 rw [hN]
 simp only
 have hsel : ∀ t, t < m.2.length → el (subS N (mnL N)) t = if el N t = noneI then noneI else el N t - mnL N := fun t ht => sub_el (by omega)
 have hmin : ∀ t, t < m.2.length → el N t ≠ noneI → mnL N ≤ el N t ∧ el N t ≤ B + W := fun t ht hn => by
  have hin : el N t ∈ N := el_mem (by omega)
  rcases hlow _ hin with h | h
  ·exact absurd h hn
  ·exact ⟨mnL_le hin, h.2⟩
 refine ⟨hw0.2.1, hw0.2.2, ⟨by simp [subS, hlen], fun t ht => ?_⟩, fun t ht hn => ?_, fun q hq hs a ha e1 e2 t ht => ?_⟩
 ·rw [hsel t ht]
  by_cases g : el N t = noneI
  ·rw [if_pos g]; exact .inl rfl
  ·rw [if_neg g]
   have := hmin t ht g
   exact .inr (by omega)
 ·rw [hsel t ht] at hn ⊢
  have g : el N t ≠ noneI := fun g => hn (by rw [if_pos g])
  rw [if_neg g]
  rcases hce t with h | h
  ·exact absurd ((hel t ht).trans h) g
  ·obtain ⟨q, h1, h2, a, h3, h4, h5, h6, h7⟩ := mem_cosL.1 h.1
   refine ⟨q, h1, h2, a, h3, h4, h5, h6, ?_⟩
   have := hel t ht
   omega
 ·obtain ⟨_, _, t', ht', hl'⟩ := arc_low hf hq ha
  obtain rfl : t' = t := by omega
  have hc : el S q + a.2.2.1 ∈ cosL m.2 S p.1 p.2 t' := mem_cosL.2 ⟨q, hq, hs, a, ha, e1, e2, ht, rfl⟩
  have h1 := mnL_le hc
  have h2 := hcl t' _ hc
  have h3 := hel t' hl'
  have g : el N t' ≠ noneI := by omega
  rw [hsel t' hl', if_neg g]
  exact ⟨by have := hmin t' hl' g; omega, by omega⟩
end
end Go.Proofs.YtfhjncpakgailaaGreatDoor.Pl
namespace Go.Proofs.YtfhjncpakgailaaGreatDoor.Pl
def bl (s : ByteArray) : List UInt8 := s.data.toList
def digB (c : UInt8) : Bool := decide (48 ≤ (c.toNat : Int) ∧ (c.toNat : Int) ≤ 57)
theorem digB_true {c : UInt8} : digB c = true ↔ (48 ≤ (c.toNat : Int) ∧ (c.toNat : Int) ≤ 57) := by unfold digB; simp
def numV (l : List UInt8) : Int := l.foldl (fun n c => 10 * n + ((c.toNat : Int) - 48)) 0
theorem numV_snoc (l : List UInt8) (c : UInt8) : numV (l ++ [c]) = 10 * numV l + ((c.toNat : Int) - 48) := by simp [numV]
theorem all_snoc (l : List UInt8) (c : UInt8) : (l ++ [c]).all digB = (l.all digB && digB c) := by simp
theorem head_app (l m : List UInt8) (h : l ≠ []) : (l ++ m).head? = l.head? := by
 cases l with
 | nil => exact absurd rfl h
 | cons x l => rfl
theorem dig_nat (d : Nat) (h : d < 10) : (UInt8.ofNat (48 + d)).toNat = 48 + d := by
 rw [UInt8.toNat_ofNat']; omega
theorem dec_big (u : Nat) (h : ¬ u < 10) : Lib.decDigits u = Lib.decDigits (u / 10) ++ [UInt8.ofNat (48 + u % 10)] := by rw [Lib.decDigits, dif_neg h]
theorem dec_digits (u : Nat) : (Lib.decDigits u).all digB = true ∧ numV (Lib.decDigits u) = (u : Int) ∧ (1 ≤ u → (Lib.decDigits u).head? ≠ some 48) ∧ 1 ≤ (Lib.decDigits u).length := by
  induction u using Nat.strongRecOn with
  | _ u ih =>
    by_cases h : u < 10
    · rw [Lib.decDigits_one h]
      have hd := dig_nat u h
      refine ⟨?_, ?_, ?_, by simp⟩
      · rw [List.all_cons, List.all_nil, Bool.and_true]
        exact digB_true.2 (by omega)
      · have := numV_snoc [] (UInt8.ofNat (48 + u))
        rw [List.nil_append] at this
        rw [this, hd]; simp [numV]; omega
      · intro h1 e
        have e' : UInt8.ofNat (48 + u) = 48 := by simpa using e
        have := congrArg UInt8.toNat e'
        rw [hd] at this
        have h48 : (48 : UInt8).toNat = 48 := rfl
        omega
    · obtain ⟨i1, i2, i3, i4⟩ := ih (u / 10) (by omega)
      have hd := dig_nat (u % 10) (by omega)
      rw [dec_big u h]
      refine ⟨?_, ?_, ?_, ?_⟩
      · rw [all_snoc, i1, Bool.true_and]
        exact digB_true.2 (by omega)
      · rw [numV_snoc, i2, hd]; omega
      · intro _
        have hne : Lib.decDigits (u / 10) ≠ [] := by intro e; rw [e] at i4; simp at i4
        rw [head_app _ _ hne]
        exact i3 (by omega)
      · rw [List.length_append]; omega
theorem dec_len : ∀ (k u : Nat), u < 10 ^ (k + 1) → (Lib.decDigits u).length ≤ k + 1 := by
  intro k
  induction k with
  | zero => intro u hu; rw [Lib.decDigits_one (by omega)]; simp
  | succ k ih =>
    intro u hu
    by_cases h : u < 10
    · rw [Lib.decDigits_one h]; simp
    · rw [dec_big u h, List.length_append]
      have := ih (u / 10) (by rw [Nat.pow_succ] at hu; omega)
      simp; omega
theorem itoa_nat {n : Int} (h : 0 ≤ n) : Lib.itoa n = Lib.decDigits n.toNat := by unfold Lib.itoa; rw [if_neg (by omega)]
end Go.Proofs.YtfhjncpakgailaaGreatDoor.Pl
namespace Go.Proofs.YtfhjncpakgailaaGreatDoor.Pl
set_option linter.unusedVariables false
set_option linter.unusedSimpArgs false
theorem cut_one (c : UInt8) : ∀ (x y r s : List UInt8), (∀ b ∈ x, b ≠ c) → (∀ b ∈ y, b ≠ c) → x ++ c :: r = y ++ c :: s → x = y ∧ r = s
  | [], [], r, s, _, _, h => ⟨rfl, by simpa using h⟩
  | [], b :: y, r, s, _, hy, h => by
    simp only [List.nil_append, List.cons_append, List.cons.injEq] at h
    exact absurd h.1.symm (hy b List.mem_cons_self)
  | b :: x, [], r, s, hx, _, h => by
    simp only [List.nil_append, List.cons_append, List.cons.injEq] at h
    exact absurd h.1 (hx b List.mem_cons_self)
  | b :: x, d :: y, r, s, hx, hy, h => by
    simp only [List.cons_append, List.cons.injEq] at h
    obtain ⟨h1, h2⟩ := cut_one c x y r s (fun z hz => hx z (List.mem_cons_of_mem _ hz)) (fun z hz => hy z (List.mem_cons_of_mem _ hz)) h.2
    exact ⟨by rw [h.1, h1], h2⟩
def dgT (n : Int) : List UInt8 := Lib.decDigits n.toNat
theorem dgT_bytes (n : Int) : ∀ b ∈ dgT n, b ≠ 58 ∧ b ≠ 32 := by
 intro b hb
 have h := (dec_digits n.toNat).1
 rw [List.all_eq_true] at h
 have h1 := digB_true.1 (h b hb)
 constructor
 ·rintro rfl
  simp at h1
 ·rintro rfl
  simp at h1
theorem dgT_inj {a b : Int} (ha : 0 ≤ a) (hb : 0 ≤ b) (h : dgT a = dgT b) : a = b := by
 have h1 := (dec_digits a.toNat).2.1
 have h2 := (dec_digits b.toNat).2.1
 unfold dgT at h
 rw [h] at h1
 omega
theorem dgT_len {n : Int} (h : n ≤ 9999999999999) : (dgT n).length ≤ 13 := dec_len 12 n.toNat (by omega)
end Go.Proofs.YtfhjncpakgailaaGreatDoor.Pl
