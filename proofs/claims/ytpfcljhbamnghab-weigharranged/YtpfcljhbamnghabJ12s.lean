/- What arranging keeps (no program in sight). What trimming leaves: it is right, all of it lies on paths, trimmed again it stays (no program in sight). Arranged, merged or trimmed a machine costs the same (no program in sight). -/
import Derived.Test.YtpfcljhbamnghabPlainA
import Derived.Test.YtpfcljhbamnghabPlainZa
import Derived.Test.YtpfcljhbamnghabPlainWq
namespace Go.Proofs.Ytpfcljhbamnghab.Pl
theorem sortS_sortL (l : List Ar) : sortS false l = sortL l := rfl
theorem pair_sortB {l : List Ar} (h : l.Pairwise fun a b => leB a b = true) : sortB l = true := by
  rw [sortB_iff]
  intro i hi
  have := List.pairwise_iff_getElem.1 h i (i + 1) (by omega) hi (by omega)
  rw [el_get hi, el_get (by omega)]
  simpa [leB] using this
theorem sort_right (l : List Ar) : sortB (sortS false l) = true := pair_sortB (sortL_pair l)
theorem sort_sort (l : List Ar) : sortS false (sortS false l) = sortS false l := by
  rw [sortS_sortL, sortS_sortL]
  exact (sortL_one (List.Perm.refl _) (sortL_pair l)).symm
theorem arcN_map {f : List Ar → List Ar} (hf : ∀ l, (f l).length ≤ l.length) (l : List St) : arcN (l.map fun s => (s.1, f s.2)) ≤ arcN l := by
  induction l with
  | nil => simp [arcN]
  | cons s l ih => have := hf s.2; simp only [List.map_cons, arcN]; omega
/-- Arcs that stay, of a right machine: a right machine. -/
theorem fault_map {f : List Ar → List Ar} (hf : ∀ l, (f l).length ≤ l.length) (hs : ∀ l a, a ∈ f l → a ∈ l) {m : Mc} (h : faultM m = 0) : faultM (mapM f m) = 0 := by
  obtain ⟨h1, h2⟩ := faultM_zero h
  have h3 := arcN_map hf m.2
  refine faultM_ok ?_ ?_
  · simp only [sizeB, mapM, Bool.and_eq_true, decide_eq_true_eq, List.length_map] at h1 ⊢
    exact ⟨h1.1, decide_eq_true (Nat.le_trans h3 h1.2)⟩
  · simp only [rangeB, mapM, Bool.and_eq_true, List.length_map, List.all_eq_true] at h2 ⊢
    refine ⟨h2.1, fun s hs' => ?_⟩
    simp only [List.mem_map] at hs'
    obtain ⟨t, ht, rfl⟩ := hs'
    have h4 := h2.2 t ht
    simp only [stB, Bool.and_eq_true, List.all_eq_true] at h4 ⊢
    exact ⟨h4.1, fun a ha => h4.2 a (hs _ a ha)⟩
/-- How often an arc stands in a list. -/
def cntA (l : List Ar) (a : Ar) : Nat := l.countP fun x => decide (x = a)
theorem cntA_take {l : List Ar} {k : Nat} (h : k < l.length) (a : Ar) : cntA (l.take (k + 1)) a = cntA (l.take k) a + (if el l k = a then 1 else 0) := by
  unfold cntA
  rw [take_el h, List.countP_append]
  by_cases e : el l k = a <;> simp [e]
theorem cntA_le (l : List Ar) (a : Ar) : cntA l a ≤ l.length := List.countP_le_length
theorem cntA_perm {l r : List Ar} (h : l.Perm r) (a : Ar) : cntA l a = cntA r a := h.countP_eq _
theorem cntA_pos {l : List Ar} {a : Ar} (h : a ∈ l) : 0 < cntA l a := List.countP_pos_iff.2 ⟨a, h, by simp⟩
/-- Alike, and no heavier. -/
def lessB (y x : Ar) : Bool := decide (y.1 = x.1) && decide (y.2.1 = x.2.1) && decide (y.2.2.2 = x.2.2.2) && decide (y.2.2.1 ≤ x.2.2.1)
theorem alike_iff {a b : Ar} : alikeB a b = true ↔ a.1 = b.1 ∧ a.2.1 = b.2.1 ∧ a.2.2.2 = b.2.2.2 := by simp [alikeB, and_assoc]
theorem less_iff {a b : Ar} : lessB a b = true ↔ a.1 = b.1 ∧ a.2.1 = b.2.1 ∧ a.2.2.2 = b.2.2.2 ∧ a.2.2.1 ≤ b.2.2.1 := by simp [lessB, and_assoc]
theorem leB_iff {a b : Ar} : leB a b = true ↔ ¬ (b.1 < a.1 ∨ b.1 = a.1 ∧ (b.2.1 < a.2.1 ∨ b.2.1 = a.2.1 ∧ (b.2.2.2 < a.2.2.2 ∨ b.2.2.2 = a.2.2.2 ∧ b.2.2.1 < a.2.2.1))) := by
  rw [← aheadB_false]; simp [leB]
theorem lightFrom_mem {p : Ar} {l : List Ar} {y : Ar} (h : y ∈ lightFrom p l) : y ∈ l := by
  induction l generalizing p with
  | nil => simp [lightFrom] at h
  | cons x l ih =>
    simp only [lightFrom] at h
    split at h
    · exact List.mem_cons_of_mem _ (ih h)
    · rcases List.mem_cons.1 h with rfl | h
      · exact List.mem_cons_self
      · exact List.mem_cons_of_mem _ (ih h)
theorem lightL_mem {l : List Ar} {y : Ar} (h : y ∈ lightL l) : y ∈ l := by
  cases l with
  | nil => simp [lightL] at h
  | cons a l =>
    rcases List.mem_cons.1 h with rfl | h
    · exact List.mem_cons_self
    · exact List.mem_cons_of_mem _ (lightFrom_mem h)
theorem light_apart {p : Ar} {l : List Ar} (h : (p :: l).Pairwise fun a b => leB a b = true) : (∀ y ∈ lightFrom p l, alikeB y p = false) ∧ (lightFrom p l).Pairwise fun a b => alikeB b a = false := by
  induction l generalizing p with
  | nil => simp [lightFrom]
  | cons x l ih =>
    rw [List.pairwise_cons] at h
    obtain ⟨i1, i2⟩ := ih h.2
    have hpx := leB_iff.1 (h.1 x List.mem_cons_self)
    simp only [lightFrom]
    split
    · rename_i hx
      refine ⟨fun y hy => ?_, i2⟩
      have h1 := i1 y hy
      rcases bool_cases' (alikeB y p) with h2 | h2
      · rw [alike_iff] at hx h2
        have h3 : alikeB y x = true := alike_iff.2 (by omega)
        rw [h3] at h1; cases h1
      · exact h2
    · rename_i hx
      refine ⟨fun y hy => ?_, ?_⟩
      · rcases List.mem_cons.1 hy with rfl | hy
        · simpa using hx
        · have hyl := lightFrom_mem hy
          have hxy := leB_iff.1 ((List.pairwise_cons.1 h.2).1 y hyl)
          rcases bool_cases' (alikeB y p) with h2 | h2
          · rw [alike_iff] at h2
            exact absurd (alike_iff.2 (by omega)) hx
          · exact h2
      · rw [List.pairwise_cons]
        exact ⟨fun y hy => i1 y hy, i2⟩
theorem light_has {p : Ar} {l : List Ar} (h : (p :: l).Pairwise fun a b => leB a b = true) : ∀ x ∈ l, lessB p x = true ∨ ∃ y ∈ lightFrom p l, lessB y x = true := by
  induction l generalizing p with
  | nil => simp
  | cons x l ih =>
    rw [List.pairwise_cons] at h
    have i1 := ih h.2
    have hpx := leB_iff.1 (h.1 x List.mem_cons_self)
    intro z hz
    simp only [lightFrom]
    split
    · rename_i hx
      rw [alike_iff] at hx
      have hl : lessB p x = true := less_iff.2 (by omega)
      rcases List.mem_cons.1 hz with rfl | hz
      · exact .inl hl
      · rcases i1 z hz with h1 | ⟨y, hy, h1⟩
        · rw [less_iff] at hl h1
          exact .inl (less_iff.2 (by omega))
        · exact .inr ⟨y, hy, h1⟩
    · rcases List.mem_cons.1 hz with rfl | hz
      · exact .inr ⟨z, List.mem_cons_self, less_iff.2 (by omega)⟩
      · rcases i1 z hz with h1 | ⟨y, hy, h1⟩
        · exact .inr ⟨x, List.mem_cons_self, h1⟩
        · exact .inr ⟨y, List.mem_cons_of_mem _ hy, h1⟩
theorem count_one {l : List Ar} {p : Ar → Bool} (h : l.Pairwise fun a b => ¬ (p a = true ∧ p b = true)) : l.countP p ≤ 1 := by
  induction l with
  | nil => simp
  | cons a l ih =>
    rw [List.pairwise_cons] at h
    have i1 := ih h.2
    rcases bool_cases' (p a) with ha | ha
    · have h0 : l.countP p = 0 := List.countP_eq_zero.2 (fun b hb hb' => h.1 b hb ⟨ha, hb'⟩)
      simp [ha, h0]
    · simp [ha, i1]
/-- Of those that are alike just one is left, the lightest. -/
theorem light_count {l : List Ar} {x : Ar} (hx : x ∈ l) : (lightL (sortS false l)).countP (fun y => lessB y x) = 1 := by
  have hp := sortL_pair l
  have hx' : x ∈ sortS false l := (sortS_perm false l).mem_iff.2 hx
  rw [sortS_sortL] at hx' ⊢
  cases hs : sortL l with
  | nil => rw [hs] at hx'; simp at hx'
  | cons a r =>
    rw [hs] at hp hx'
    obtain ⟨h1, h2⟩ := light_apart hp
    have h3 := light_has hp
    have ap : (lightL (a :: r)).Pairwise fun a b => ¬ (lessB a x = true ∧ lessB b x = true) := by
      have hq : (lightL (a :: r)).Pairwise fun a b => alikeB b a = false := by
        rw [lightL, List.pairwise_cons]
        exact ⟨h1, h2⟩
      refine hq.imp ?_
      intro b c hbc hh
      obtain ⟨q1, q2⟩ := hh
      rw [less_iff] at q1 q2
      have : alikeB c b = true := alike_iff.2 (by omega)
      rw [this] at hbc; cases hbc
    have hle := count_one ap
    have hge : 0 < (lightL (a :: r)).countP (fun y => lessB y x) := by
      rw [List.countP_pos_iff]
      rcases List.mem_cons.1 hx' with rfl | hr
      · exact ⟨x, List.mem_cons_self, less_iff.2 (by omega)⟩
      · rcases h3 x hr with h4 | ⟨y, hy, h4⟩
        · exact ⟨a, List.mem_cons_self, h4⟩
        · exact ⟨y, List.mem_cons_of_mem _ hy, h4⟩
    omega
theorem countP_take {l : List Ar} {k : Nat} (h : k < l.length) (p : Ar → Bool) : (l.take (k + 1)).countP p = (l.take k).countP p + (if p (el l k) = true then 1 else 0) := by
  rw [take_el h, List.countP_append]
  rcases bool_cases' (p (el l k)) with e | e <;> simp [e]
theorem merge_sub (l : List Ar) (a : Ar) (h : a ∈ lightL (sortS false l)) : a ∈ l := (sortS_perm false l).mem_iff.1 (lightL_mem h)
theorem merge_le (l : List Ar) : (lightL (sortS false l)).length ≤ l.length := by have := lightL_le (sortS false l); rw [sortS_length] at this; exact this
end Go.Proofs.Ytpfcljhbamnghab.Pl
namespace Go.Proofs.Ytpfcljhbamnghab.Pl
section
variable {z : Int} {l : List St} {aa bs : List Bool}
theorem trim_back (hf : faultM (z, l) = 0) (hA : Least (AheadC z l) l.length aa) (hB : Least (BackC l) l.length bs) (T : Nat → Prop) (hT : BackC ((keptL aa bs l.length).map (trimS l (keptL aa bs l.length))) T) :
    ∀ i, i < (keptL aa bs l.length).length → T i := by
  have hp := keptL_sorted aa bs l.length
  have hk : ∀ q, q < l.length → el aa q = true → el bs q = true → ∃ i : Nat, i < (keptL aa bs l.length).length ∧ el (keptL aa bs l.length) i = (q : Int) ∧ placeI (keptL aa bs l.length) (q : Int) = (i : Int) := fun q hq h1 h2 => placeI_mem hp (keptL_iff.2 ⟨hq, h1, h2⟩)
  have key : ∀ q, q < l.length → el bs q = true → (el bs q = true ∧ (el aa q = true → T (placeI (keptL aa bs l.length) (q : Int)).toNat)) := by
    refine hB.2.2 (fun q => el bs q = true ∧ (el aa q = true → T (placeI (keptL aa bs l.length) (q : Int)).toNat)) ⟨?_, ?_⟩
    · intro q hq hz
      have h1 := hB.2.1.1 q hq hz
      refine ⟨h1, fun h2 => ?_⟩
      obtain ⟨i, hi, hei, e⟩ := hk q hq h2 h1
      rw [e]
      refine hT.1 _ (by simpa using hi) ?_
      rw [Int.toNat_natCast, trim_el hi, hei]
      simpa using hz
    · intro q hq d hd h9
      obtain ⟨t, ht, htn⟩ := to_right hf hq hd
      rw [ht] at h9
      simp only [Int.toNat_natCast] at h9
      have h1 : el bs q = true := hB.2.1.2 q hq d hd (by rw [ht]; simpa using h9.1)
      refine ⟨h1, fun h2 => ?_⟩
      have h3 : el aa t = true := by have := hA.2.1.2 q hq h2 d hd; rw [ht] at this; simpa using this
      obtain ⟨i, hi, hei, e⟩ := hk q hq h2 h1
      obtain ⟨j, hj, hej, e2⟩ := hk t htn h3 h9.1
      have h4 := h9.2 h3
      rw [e2] at h4
      rw [e]
      refine hT.2 i (by simpa using hi) (turnA (keptL aa bs l.length) d) (by
        rw [trim_el hi, hei]
        simp only [Int.toNat_natCast]
        exact trimA_in hd (by rw [ht, e2]; omega)) ?_
      simp only [turnA]
      rw [ht, e2]
      exact h4
  intro i hi
  obtain ⟨q, hq, hqn, h1, h2⟩ := keptL_mem (el_mem hi)
  have h3 := (key q hqn h2).2 h1
  rw [← hq, placeI_el hp hi] at h3
  simpa using h3
theorem arcN_cons (s : St) (l : List St) : arcN (s :: l) = s.2.length + arcN l := rfl
theorem trim_arcs (ks : List Int) (n : Nat) (hn : n ≤ l.length) : arcN ((keptL aa bs n).map (trimS l ks)) ≤ arcN (l.take n) := by
  induction n with
  | zero => simp [keptL, arcN]
  | succ n ih =>
    rw [keptL_succ, List.map_append, arcN_append, arcN_take (by omega)]
    have := ih (by omega)
    split
    · have h9 := trimA_le ks (el l n).2
      simp only [List.map_cons, List.map_nil, arcN_cons, arcN, trimS, Int.toNat_natCast]
      omega
    · simp only [List.map_nil, arcN]
      omega
theorem trim_fault (hf : faultM (z, l) = 0) : faultM (trimM z l (keptL aa bs l.length)) = 0 := by
  have hp := keptL_sorted aa bs l.length
  have hle := keptL_le aa bs l.length
  have hsz := right_size hf
  have har := trim_arcs (l := l) (aa := aa) (bs := bs) (keptL aa bs l.length) l.length (Nat.le_refl _)
  rw [List.take_length] at har
  have hpl : ∀ x, -1 ≤ placeI (keptL aa bs l.length) x ∧ placeI (keptL aa bs l.length) x ≤ ((keptL aa bs l.length).length : Int) - 1 := fun x => by
    by_cases e : x ∈ keptL aa bs l.length
    · obtain ⟨i, hi, _, h⟩ := placeI_mem hp e
      rw [h]; omega
    · rw [placeI_not e]; omega
  refine faultM_ok ?_ ?_
  · simp only [sizeB, trimM, Bool.and_eq_true, List.length_map]
    exact ⟨decide_eq_true (by omega), decide_eq_true (by omega)⟩
  · simp only [rangeB, trimM, Bool.and_eq_true, List.length_map, List.all_eq_true]
    refine ⟨by simp only [inB, Bool.and_eq_true, decide_eq_true_eq]; exact hpl z, fun s hs => ?_⟩
    obtain ⟨x, hx, rfl⟩ := List.mem_map.1 hs
    obtain ⟨q, rfl, hq, _, _⟩ := keptL_mem hx
    have h1 := right_st hf hq
    simp only [stB, trimS, Bool.and_eq_true, List.all_eq_true, Int.toNat_natCast]
    refine ⟨h1.1, fun c hc => ?_⟩
    obtain ⟨d, hd, rfl, h0⟩ := trimA_mem hc
    have h2 := List.all_eq_true.1 h1.2 d hd
    have h3 := hpl d.2.2.2
    simp only [arcB, inB, Bool.and_eq_true, decide_eq_true_eq] at h2
    simp only [arcB, turnA, inB, Bool.and_eq_true]
    exact ⟨⟨⟨⟨decide_eq_true (by omega), decide_eq_true (by omega)⟩, ⟨decide_eq_true (by omega), decide_eq_true (by omega)⟩⟩, ⟨decide_eq_true (by omega), decide_eq_true (by omega)⟩⟩, ⟨decide_eq_true h0, decide_eq_true h3.2⟩⟩
theorem trim_ok (hm : okM (z, l)) : okM (trimM z l (keptL aa bs l.length)) := by
  have hle := keptL_le aa bs l.length
  have h1 := hm.1
  have h2 := hm.2
  refine ⟨by simp only [trimM, List.length_map] at h1 ⊢; omega, fun j hj => ?_⟩
  simp only [trimM, List.length_map] at hj ⊢
  rw [trim_el hj]
  obtain ⟨q, e, hq, _, _⟩ := keptL_mem (el_mem hj)
  rw [e]
  have := trimA_le (keptL aa bs l.length) (el l q).2
  have := h2 q hq
  simp only [Int.toNat_natCast] at this ⊢
  omega
theorem all_least {C : (Nat → Prop) → Prop} {n : Nat} (hC : C (fun q => q < n)) (h : ∀ T, C T → ∀ i, i < n → T i) : Least C n (List.replicate n true) :=
  ⟨by simp, by
    have : (fun q => el (List.replicate n true) q = true) = fun q => q < n := by funext q; rw [el_true]
    rw [this]; exact hC, fun T hT q hq _ => h T hT q hq⟩
theorem trim_to (hf : faultM (z, l) = 0) {i : Nat} (hi : i < (keptL aa bs l.length).length) {c : Ar} (hc : c ∈ (el ((keptL aa bs l.length).map (trimS l (keptL aa bs l.length))) i).2) : ∃ t : Nat, c.2.2.2 = (t : Int) ∧ t < (keptL aa bs l.length).length := by
  have h := to_right (trim_fault (aa := aa) (bs := bs) hf) (q := i) (by simpa [trimM] using hi) (d := c) (by simpa [trimM] using hc)
  simpa using h
theorem trim_all_ahead (hf : faultM (z, l) = 0) (hA : Least (AheadC z l) l.length aa) (hB : Least (BackC l) l.length bs) :
    Least (AheadC (placeI (keptL aa bs l.length) z) ((keptL aa bs l.length).map (trimS l (keptL aa bs l.length)))) (keptL aa bs l.length).length (List.replicate (keptL aa bs l.length).length true) := by
  refine all_least ⟨fun q hq _ => by simpa using hq, fun q hq h c hc => ?_⟩ (trim_ahead hf hA hB)
  obtain ⟨t, h1, h2⟩ := trim_to hf (by simpa using hq) hc
  rw [h1]; simpa using h2
theorem trim_all_back (hf : faultM (z, l) = 0) (hA : Least (AheadC z l) l.length aa) (hB : Least (BackC l) l.length bs) :
    Least (BackC ((keptL aa bs l.length).map (trimS l (keptL aa bs l.length)))) (keptL aa bs l.length).length (List.replicate (keptL aa bs l.length).length true) := by
  refine all_least ⟨fun q hq _ => by simpa using hq, fun q hq c hc _ => by simpa using hq⟩ (trim_back hf hA hB)
/-- All numbers below n. -/
theorem kept_all (n : Nat) : keptL (List.replicate n true) (List.replicate n true) n = (List.range n).map fun q : Nat => (q : Int) := by
  unfold keptL
  congr 1
  rw [List.filter_eq_self]
  intro q hq
  have := el_true.2 (List.mem_range.1 hq)
  simp [this]
theorem place_all {n : Nat} {x : Int} (h1 : -1 ≤ x) (h2 : x < n) : placeI ((List.range n).map fun q : Nat => (q : Int)) x = x := by
  have hp : ((List.range n).map fun q : Nat => (q : Int)).Pairwise (· < ·) := by
    have := keptL_sorted (List.replicate n true) (List.replicate n true) n
    rwa [kept_all] at this
  by_cases e : 0 ≤ x
  · have h3 : x.toNat < n := by omega
    have := placeI_el hp (i := x.toNat) (by simpa using h3)
    rw [el_range_map (fun q : Nat => (q : Int)) h3] at this
    rw [show ((x.toNat : Nat) : Int) = x by omega] at this
    exact this
  · rw [placeI_not (by intro h; obtain ⟨q, _, h9⟩ := List.mem_map.1 h; omega)]
    omega
theorem trimA_all {n : Nat} {ar : List Ar} (h : ∀ a ∈ ar, ∃ t : Nat, a.2.2.2 = (t : Int) ∧ t < n) : trimA ((List.range n).map fun q : Nat => (q : Int)) ar = ar := by
  unfold trimA
  have : ar.map (turnA ((List.range n).map fun q : Nat => (q : Int))) = ar := by
    conv => rhs; rw [← List.map_id ar]
    refine List.map_congr_left fun a ha => ?_
    obtain ⟨t, h1, h2⟩ := h a ha
    unfold turnA
    rw [h1, place_all (by omega) (by omega), ← h1]
    rfl
  rw [this, List.filter_eq_self]
  intro a ha
  obtain ⟨t, h1, h2⟩ := h a ha
  simp [h1]
/-- A right machine of which all states are left stays as it is. -/
theorem trim_all (hf : faultM (z, l) = 0) : trimM z l (keptL (List.replicate l.length true) (List.replicate l.length true) l.length) = (z, l) := by
  rw [kept_all]
  unfold trimM
  have hz := (faultM_zero hf).2
  simp only [rangeB, Bool.and_eq_true, inB, decide_eq_true_eq] at hz
  rw [place_all (by omega) (by omega)]
  congr 1
  apply el_ext (by simp)
  intro j hj
  have hj' : j < l.length := by simpa using hj
  rw [el_map (by simpa using hj'), el_range_map (fun q : Nat => (q : Int)) hj']
  unfold trimS
  rw [Int.toNat_natCast, trimA_all (fun a ha => to_right hf hj' ha)]
/-- Where the start is not left, nothing is. -/
theorem trim_start (hA : Least (AheadC z l) l.length aa) (hB : Least (BackC l) l.length bs) : placeI (keptL aa bs l.length) z < 0 ↔ (keptL aa bs l.length).length = 0 := by
  have hp := keptL_sorted aa bs l.length
  constructor
  · intro h
    have hz : z ∉ keptL aa bs l.length := fun h9 => by have := (placeI_nonneg hp).2 h9; omega
    by_cases e : (keptL aa bs l.length).length = 0
    · exact e
    · obtain ⟨q, hq, hqn, h1, h2⟩ := keptL_mem (el_mem (l := keptL aa bs l.length) (j := 0) (by omega))
      have key := hA.2.2 (fun q => el aa q = true ∧ ¬ el bs q = true) ⟨fun q hq h9 => ?_, fun q hq h9 d hd => ?_⟩ q hqn h1
      · exact absurd h2 key.2
      · have h3 := hA.2.1.1 q hq h9
        exact ⟨h3, fun h4 => hz (by rw [← h9]; exact keptL_iff.2 ⟨hq, h3, h4⟩)⟩
      · exact ⟨hA.2.1.2 q hq h9.1 d hd, fun h4 => h9.2 (hB.2.1.2 q hq d hd h4)⟩
  · intro h
    have : keptL aa bs l.length = [] := List.eq_nil_of_length_eq_zero h
    rw [this, placeI_not (by simp)]
    omega
/-- How many arcs lead from a state that is left to one that can end. -/
def cntK (l : List St) (aa bs : List Bool) : Nat → Nat
  | 0 => 0
  | n + 1 => cntK l aa bs n + (if (el aa n && el bs n) = true then (el l n).2.countP (fun a => el bs a.2.2.2.toNat) else 0)
theorem trimA_count {ks : List Int} {p : Ar → Bool} {ar : List Ar} (h : ∀ a ∈ ar, (0 ≤ placeI ks a.2.2.2 ↔ p a = true)) : (trimA ks ar).length = ar.countP p := by
  unfold trimA
  rw [← List.countP_eq_length_filter, List.countP_map]
  refine List.countP_congr fun a ha => ?_
  simp only [Function.comp, turnA]
  exact decide_eq_true_iff.trans (h a ha)
theorem trim_count (hf : faultM (z, l) = 0) (hA : Least (AheadC z l) l.length aa) (n : Nat) (hn : n ≤ l.length) : arcN ((keptL aa bs n).map (trimS l (keptL aa bs l.length))) = cntK l aa bs n := by
  induction n with
  | zero => simp [keptL, arcN, cntK]
  | succ n ih =>
    rw [keptL_succ, List.map_append, arcN_append, ih (by omega), cntK]
    split
    · rename_i hk
      simp only [Bool.and_eq_true] at hk
      simp only [List.map_cons, List.map_nil, arcN_cons, arcN, trimS, Int.toNat_natCast, Nat.add_zero]
      rw [trimA_count (p := fun a => el bs a.2.2.2.toNat)]
      intro a ha
      obtain ⟨t, h1, h2⟩ := to_right hf (q := n) (by omega) ha
      have h3 := hA.2.1.2 n (by omega) hk.1 a ha
      rw [placeI_nonneg (keptL_sorted aa bs l.length)]
      rw [h1] at h3 ⊢
      simp only [Int.toNat_natCast] at h3 ⊢
      rw [keptL_iff]
      exact ⟨fun h => h.2.2, fun h => ⟨h2, h3, h⟩⟩
    · simp [arcN]
end
end Go.Proofs.Ytpfcljhbamnghab.Pl
namespace Go.Proofs.Ytpfcljhbamnghab.Pl
set_option linter.unusedVariables false
set_option linter.unusedSimpArgs false
theorem mapM_el {f : List Ar → List Ar} {m : Mc} {q : Nat} (h : q < m.2.length) : el (mapM f m).2 q = ((el m.2 q).1, f (el m.2 q).2) := el_map h _
theorem mapM_len (f : List Ar → List Ar) (m : Mc) : (mapM f m).2.length = m.2.length := by simp [mapM]
theorem mapM_cheap {f : List Ar → List Ar} (hf : ∀ l a, a ∈ f l → a ∈ l) {m : Mc} (h : CheapL m.2) : CheapL (mapM f m).2 := fun s hs => by
  simp only [mapM, List.mem_map] at hs
  obtain ⟨t, ht, rfl⟩ := hs
  exact ⟨(h t ht).1, fun a ha => (h t ht).2 a (hf _ a ha)⟩
theorem mapM_mem {f : List Ar → List Ar} (hf : ∀ l a, a ∈ f l → a ∈ l) {m : Mc} (q : Nat) (a : Ar) (h : a ∈ (el (mapM f m).2 q).2) : a ∈ (el m.2 q).2 := by
  have hq := el_in h
  rw [mapM_len] at hq
  rw [mapM_el hq] at h
  exact hf _ a h
/-- The same arcs in another order. -/
theorem costs_sort (s : Bool) (m : Mc) (x y : List Int) (c : Nat) : Costs (mapM (sortS s) m) x y c ↔ Costs m x y c := by
  refine costs_same (m := mapM (sortS s) m) (m' := m) rfl (mapM_len _ _) (fun q hq => by rw [mapM_el (by rwa [mapM_len] at hq)]) (fun q a => ⟨mapM_mem (fun l a h => (sortS_perm s l).mem_iff.1 h) q a, fun h => ?_⟩) x y c
  rw [mapM_el (el_in h)]
  exact (sortS_perm s _).mem_iff.2 h
theorem costs_merge (m : Mc) (x y : List Int) : (∀ c, Costs (mapM (fun l => lightL (sortS false l)) m) x y c → Costs m x y c) ∧ ∀ c, Costs m x y c → ∃ d, d ≤ c ∧ Costs (mapM (fun l => lightL (sortS false l)) m) x y d := by
  refine costs_light (m := m) (m' := mapM (fun l => lightL (sortS false l)) m) rfl (mapM_len _ _).symm (fun q hq => by rw [mapM_el hq]) (mapM_mem merge_sub) (fun q a h => ?_) x y
  rw [mapM_el (el_in h)]
  have h1 := light_count h
  have h2 : 0 < (lightL (sortS false (el m.2 q).2)).countP (fun y => lessB y a) := by omega
  obtain ⟨b, hb, hl⟩ := List.countP_pos_iff.1 h2
  obtain ⟨e1, e2, e3, e4⟩ := less_iff.1 hl
  exact ⟨b, hb, e1, e2, e3, e4⟩
section
variable {z : Int} {l : List St} {aa bs : List Bool}
theorem kept_nat {ks : List Int} (hks : ks = keptL aa bs l.length) {i : Nat} (hi : i < ks.length) : ∃ q : Nat, el ks i = (q : Int) ∧ q < l.length ∧ el aa q = true ∧ el bs q = true := by
  have := el_mem hi
  rw [hks] at this
  obtain ⟨q, h1, h2, h3, h4⟩ := keptL_mem this
  exact ⟨q, by rw [hks]; exact h1, h2, h3, h4⟩
theorem trim_way {ks : List Int} (hks : ks = keptL aa bs l.length) {i j c : Nat} {u v : List Int} (hi : i < ks.length) (h : Way (ks.map (trimS l ks)) i u v j c) : j < ks.length ∧ Way l (el ks i).toNat u v (el ks j).toNat c := by
  have hp : ks.Pairwise (· < ·) := by rw [hks]; exact keptL_sorted _ _ _
  induction h with
  | nil => exact ⟨hi, .nil⟩
  | snoc h ha ht ih =>
    rename_i u v p c a t
    obtain ⟨hpl, hw⟩ := ih
    rw [trim_el hpl] at ha
    obtain ⟨d, hd, rfl, h0⟩ := trimA_mem ha
    have hm := (placeI_nonneg hp).1 h0
    obtain ⟨k, hk, he, hpk⟩ := placeI_mem hp hm
    have hkt : k = t := by
      have : placeI ks d.2.2.2 = (t : Int) := ht
      omega
    subst hkt
    obtain ⟨q, hq, _⟩ := kept_nat hks hk
    exact ⟨hk, hw.snoc hd (by rw [he] at hq; rw [he, hq]; rfl)⟩
theorem way_trim (hf : faultM (z, l) = 0) (hA : Least (AheadC z l) l.length aa) (hB : Least (BackC l) l.length bs) {ks : List Int} (hks : ks = keptL aa bs l.length) {q p c : Nat} {u v : List Int} (hq : q < l.length) (ha : el aa q = true) (h : Way l q u v p c) :
    (p < l.length ∧ el aa p = true) ∧ (el bs p = true → el bs q = true ∧ ∀ i j : Nat, placeI ks (q : Int) = (i : Int) → placeI ks (p : Int) = (j : Int) → Way (ks.map (trimS l ks)) i u v j c) := by
  have hp : ks.Pairwise (· < ·) := by rw [hks]; exact keptL_sorted _ _ _
  induction h with
  | nil =>
    refine ⟨⟨hq, ha⟩, fun hb => ⟨hb, fun i j hi hj => ?_⟩⟩
    have hij : i = j := by omega
    rw [hij]
    exact .nil
  | snoc h hm ht ih =>
    rename_i u v p c a t
    obtain ⟨⟨hpl, hpa⟩, ih⟩ := ih
    obtain ⟨t', e1, e2⟩ := to_right hf hpl hm
    obtain rfl : t = t' := by omega
    have hta : el aa t = true := by
      have := hA.2.1.2 p hpl hpa a hm
      rwa [ht, Int.toNat_natCast] at this
    refine ⟨⟨e2, hta⟩, fun hb => ?_⟩
    have hpb : el bs p = true := hB.2.1.2 p hpl a hm (by rw [ht, Int.toNat_natCast]; exact hb)
    obtain ⟨hqb, hw⟩ := ih hpb
    refine ⟨hqb, fun i j hi hj => ?_⟩
    have hpm : (p : Int) ∈ ks := by rw [hks]; exact keptL_iff.2 ⟨hpl, hpa, hpb⟩
    obtain ⟨k, hk, hek, hpk⟩ := placeI_mem hp hpm
    have h1 := hw i k hi hpk
    have h2 : turnA ks a ∈ (el (ks.map (trimS l ks)) k).2 := by
      rw [trim_el hk, hek, Int.toNat_natCast]
      exact trimA_in hm (by rw [ht, hj]; omega)
    have h3 := h1.snoc h2 (t := j) (by unfold turnA; simp only; rw [ht, hj])
    exact h3
theorem costs_trim (hf : faultM (z, l) = 0) (hA : Least (AheadC z l) l.length aa) (hB : Least (BackC l) l.length bs) (x y : List Int) (c : Nat) : Costs (trimM z l (keptL aa bs l.length)) x y c ↔ Costs (z, l) x y c := by
  obtain ⟨ks, hks⟩ : ∃ ks, ks = keptL aa bs l.length := ⟨_, rfl⟩
  have hp : ks.Pairwise (· < ·) := by rw [hks]; exact keptL_sorted _ _ _
  rw [← hks]
  have hlen : (trimM z l ks).2.length = ks.length := by simp [trimM]
  constructor
  · rintro ⟨h0, p, d, hw, hpl, hn, rfl⟩
    have h0' : 0 ≤ placeI ks z := h0
    obtain ⟨k, hk, hek, hpk⟩ := placeI_mem hp ((placeI_nonneg hp).1 h0')
    have hw' : Way (ks.map (trimS l ks)) k x y p d := by
      have e : (trimM z l ks).1.toNat = k := by show (placeI ks z).toNat = k; rw [hpk]; rfl
      rw [e] at hw
      exact hw
    obtain ⟨hpk', hwl⟩ := trim_way hks hk hw'
    obtain ⟨q, hq1, hq2, _⟩ := kept_nat hks hpk'
    obtain ⟨q0, hz1, hz2, _⟩ := kept_nat hks hk
    have hfin : (el (trimM z l ks).2 p).1 = (el l (el ks p).toNat).1 := by
      show (el (ks.map (trimS l ks)) p).1 = _
      rw [trim_el hpk']
    rw [hek] at hwl hz1
    refine ⟨by show 0 ≤ z; omega, (el ks p).toNat, d, hwl, by rw [hq1]; exact hq2, ?_, ?_⟩
    · rw [← hfin]; exact hn
    · rw [hfin]
  · rintro ⟨h0, p, d, hw, hpl, hn, rfl⟩
    simp only at h0 hw hpl hn ⊢
    have hz := (right_parts hf).1
    simp only at hz
    have hzl : z.toNat < l.length := by omega
    have hza : el aa z.toNat = true := hA.2.1.1 z.toNat hzl (by omega)
    obtain ⟨⟨_, hpa⟩, hb⟩ := way_trim hf hA hB hks hzl hza hw
    have hpb : el bs p = true := hB.2.1.1 p hpl hn
    obtain ⟨hzb, hway⟩ := hb hpb
    have hzt : ((z.toNat : Nat) : Int) = z := by omega
    have hzm : (z.toNat : Int) ∈ ks := by rw [hks]; exact keptL_iff.2 ⟨hzl, hza, hzb⟩
    have hpm : (p : Int) ∈ ks := by rw [hks]; exact keptL_iff.2 ⟨hpl, hpa, hpb⟩
    obtain ⟨k, hk, hek, hpk⟩ := placeI_mem hp hzm
    obtain ⟨j, hj, hej, hpj⟩ := placeI_mem hp hpm
    have h1 := hway k j hpk hpj
    rw [hzt] at hpk
    have hfin : (el (trimM z l ks).2 j).1 = (el l p).1 := by
      show (el (ks.map (trimS l ks)) j).1 = _
      rw [trim_el hj, hej, Int.toNat_natCast]
    refine ⟨by show 0 ≤ placeI ks z; omega, j, d, ?_, by rw [hlen]; exact hj, by rw [hfin]; exact hn, by rw [hfin]⟩
    show Way (ks.map (trimS l ks)) (placeI ks z).toNat x y j d
    rw [hpk]
    exact h1
theorem trim_cheap {ks : List Int} (hks : ks = keptL aa bs l.length) (h : CheapL l) : CheapL (trimM z l ks).2 := fun s hs => by
  simp only [trimM, List.mem_map] at hs
  obtain ⟨x, hx, rfl⟩ := hs
  rw [hks] at hx
  obtain ⟨q, rfl, hq, _⟩ := keptL_mem hx
  unfold trimS
  rw [Int.toNat_natCast]
  refine ⟨(h _ (el_mem hq)).1, fun a ha => ?_⟩
  obtain ⟨d, hd, rfl, _⟩ := trimA_mem ha
  exact (h _ (el_mem hq)).2 d hd
end
end Go.Proofs.Ytpfcljhbamnghab.Pl
