/- What arranging keeps (no program in sight). -/
import Derived.Test.YtjpfpdbhdcopbaaPlainA
namespace Go.Proofs.Ytjpfpdbhdcopbaa.Pl
theorem sortS_sortL (l : List Ar) : sortS false l = sortL l := rfl
theorem pair_sortB {l : List Ar} (h : l.Pairwise fun a b => leB a b = true) : sortB l = true := by
  rw [sortB_iff]
  intro i hi
  have := List.pairwise_iff_getElem.1 h i (i + 1) (by omega) hi (by omega)
  rw [el_get hi, el_get (by omega)]
  simpa [leB] using this
theorem sort_right (l : List Ar) : sortB (sortS false l) = true := pair_sortB (sortL_pair l)
theorem sort_sort (l : List Ar) : sortS false (sortS false l) = sortS false l := by
  rw [sortS_sortL, sortS_sortL]
  exact (sortL_one (List.Perm.refl _) (sortL_pair l)).symm
theorem arcN_map {f : List Ar → List Ar} (hf : ∀ l, (f l).length ≤ l.length) (l : List St) : arcN (l.map fun s => (s.1, f s.2)) ≤ arcN l := by
  induction l with
  | nil => simp [arcN]
  | cons s l ih => have := hf s.2; simp only [List.map_cons, arcN]; omega
/-- Arcs that stay, of a right machine: a right machine. -/
theorem fault_map {f : List Ar → List Ar} (hf : ∀ l, (f l).length ≤ l.length) (hs : ∀ l a, a ∈ f l → a ∈ l) {m : Mc} (h : faultM m = 0) : faultM (mapM f m) = 0 := by
  obtain ⟨h1, h2⟩ := faultM_zero h
  have h3 := arcN_map hf m.2
  refine faultM_ok ?_ ?_
  · simp only [sizeB, mapM, Bool.and_eq_true, decide_eq_true_eq, List.length_map] at h1 ⊢
    exact ⟨h1.1, decide_eq_true (Nat.le_trans h3 h1.2)⟩
  · simp only [rangeB, mapM, Bool.and_eq_true, List.length_map, List.all_eq_true] at h2 ⊢
    refine ⟨h2.1, fun s hs' => ?_⟩
    simp only [List.mem_map] at hs'
    obtain ⟨t, ht, rfl⟩ := hs'
    have h4 := h2.2 t ht
    simp only [stB, Bool.and_eq_true, List.all_eq_true] at h4 ⊢
    exact ⟨h4.1, fun a ha => h4.2 a (hs _ a ha)⟩
/-- How often an arc stands in a list. -/
def cntA (l : List Ar) (a : Ar) : Nat := l.countP fun x => decide (x = a)
theorem cntA_take {l : List Ar} {k : Nat} (h : k < l.length) (a : Ar) : cntA (l.take (k + 1)) a = cntA (l.take k) a + (if el l k = a then 1 else 0) := by
  unfold cntA
  rw [take_el h, List.countP_append]
  by_cases e : el l k = a <;> simp [e]
theorem cntA_le (l : List Ar) (a : Ar) : cntA l a ≤ l.length := List.countP_le_length
theorem cntA_perm {l r : List Ar} (h : l.Perm r) (a : Ar) : cntA l a = cntA r a := h.countP_eq _
theorem cntA_pos {l : List Ar} {a : Ar} (h : a ∈ l) : 0 < cntA l a := List.countP_pos_iff.2 ⟨a, h, by simp⟩
/-- Alike, and no heavier. -/
def lessB (y x : Ar) : Bool := decide (y.1 = x.1) && decide (y.2.1 = x.2.1) && decide (y.2.2.2 = x.2.2.2) && decide (y.2.2.1 ≤ x.2.2.1)
theorem alike_iff {a b : Ar} : alikeB a b = true ↔ a.1 = b.1 ∧ a.2.1 = b.2.1 ∧ a.2.2.2 = b.2.2.2 := by simp [alikeB, and_assoc]
theorem less_iff {a b : Ar} : lessB a b = true ↔ a.1 = b.1 ∧ a.2.1 = b.2.1 ∧ a.2.2.2 = b.2.2.2 ∧ a.2.2.1 ≤ b.2.2.1 := by simp [lessB, and_assoc]
theorem leB_iff {a b : Ar} : leB a b = true ↔ ¬ (b.1 < a.1 ∨ b.1 = a.1 ∧ (b.2.1 < a.2.1 ∨ b.2.1 = a.2.1 ∧ (b.2.2.2 < a.2.2.2 ∨ b.2.2.2 = a.2.2.2 ∧ b.2.2.1 < a.2.2.1))) := by
  rw [← aheadB_false]; simp [leB]
theorem lightFrom_mem {p : Ar} {l : List Ar} {y : Ar} (h : y ∈ lightFrom p l) : y ∈ l := by
  induction l generalizing p with
  | nil => simp [lightFrom] at h
  | cons x l ih =>
    simp only [lightFrom] at h
    split at h
    · exact List.mem_cons_of_mem _ (ih h)
    · rcases List.mem_cons.1 h with rfl | h
      · exact List.mem_cons_self
      · exact List.mem_cons_of_mem _ (ih h)
theorem lightL_mem {l : List Ar} {y : Ar} (h : y ∈ lightL l) : y ∈ l := by
  cases l with
  | nil => simp [lightL] at h
  | cons a l =>
    rcases List.mem_cons.1 h with rfl | h
    · exact List.mem_cons_self
    · exact List.mem_cons_of_mem _ (lightFrom_mem h)
theorem light_apart {p : Ar} {l : List Ar} (h : (p :: l).Pairwise fun a b => leB a b = true) : (∀ y ∈ lightFrom p l, alikeB y p = false) ∧ (lightFrom p l).Pairwise fun a b => alikeB b a = false := by
  induction l generalizing p with
  | nil => simp [lightFrom]
  | cons x l ih =>
    rw [List.pairwise_cons] at h
    obtain ⟨i1, i2⟩ := ih h.2
    have hpx := leB_iff.1 (h.1 x List.mem_cons_self)
    simp only [lightFrom]
    split
    · rename_i hx
      refine ⟨fun y hy => ?_, i2⟩
      have h1 := i1 y hy
      rcases bool_cases' (alikeB y p) with h2 | h2
      · rw [alike_iff] at hx h2
        have h3 : alikeB y x = true := alike_iff.2 (by omega)
        rw [h3] at h1; cases h1
      · exact h2
    · rename_i hx
      refine ⟨fun y hy => ?_, ?_⟩
      · rcases List.mem_cons.1 hy with rfl | hy
        · simpa using hx
        · have hyl := lightFrom_mem hy
          have hxy := leB_iff.1 ((List.pairwise_cons.1 h.2).1 y hyl)
          rcases bool_cases' (alikeB y p) with h2 | h2
          · rw [alike_iff] at h2
            exact absurd (alike_iff.2 (by omega)) hx
          · exact h2
      · rw [List.pairwise_cons]
        exact ⟨fun y hy => i1 y hy, i2⟩
theorem light_has {p : Ar} {l : List Ar} (h : (p :: l).Pairwise fun a b => leB a b = true) : ∀ x ∈ l, lessB p x = true ∨ ∃ y ∈ lightFrom p l, lessB y x = true := by
  induction l generalizing p with
  | nil => simp
  | cons x l ih =>
    rw [List.pairwise_cons] at h
    have i1 := ih h.2
    have hpx := leB_iff.1 (h.1 x List.mem_cons_self)
    intro z hz
    simp only [lightFrom]
    split
    · rename_i hx
      rw [alike_iff] at hx
      have hl : lessB p x = true := less_iff.2 (by omega)
      rcases List.mem_cons.1 hz with rfl | hz
      · exact .inl hl
      · rcases i1 z hz with h1 | ⟨y, hy, h1⟩
        · rw [less_iff] at hl h1
          exact .inl (less_iff.2 (by omega))
        · exact .inr ⟨y, hy, h1⟩
    · rcases List.mem_cons.1 hz with rfl | hz
      · exact .inr ⟨z, List.mem_cons_self, less_iff.2 (by omega)⟩
      · rcases i1 z hz with h1 | ⟨y, hy, h1⟩
        · exact .inr ⟨x, List.mem_cons_self, h1⟩
        · exact .inr ⟨y, List.mem_cons_of_mem _ hy, h1⟩
theorem count_one {l : List Ar} {p : Ar → Bool} (h : l.Pairwise fun a b => ¬ (p a = true ∧ p b = true)) : l.countP p ≤ 1 := by
  induction l with
  | nil => simp
  | cons a l ih =>
    rw [List.pairwise_cons] at h
    have i1 := ih h.2
    rcases bool_cases' (p a) with ha | ha
    · have h0 : l.countP p = 0 := List.countP_eq_zero.2 (fun b hb hb' => h.1 b hb ⟨ha, hb'⟩)
      simp [ha, h0]
    · simp [ha, i1]
/-- Of those that are alike just one is left, the lightest. -/
theorem light_count {l : List Ar} {x : Ar} (hx : x ∈ l) : (lightL (sortS false l)).countP (fun y => lessB y x) = 1 := by
  have hp := sortL_pair l
  have hx' : x ∈ sortS false l := (sortS_perm false l).mem_iff.2 hx
  rw [sortS_sortL] at hx' ⊢
  cases hs : sortL l with
  | nil => rw [hs] at hx'; simp at hx'
  | cons a r =>
    rw [hs] at hp hx'
    obtain ⟨h1, h2⟩ := light_apart hp
    have h3 := light_has hp
    have ap : (lightL (a :: r)).Pairwise fun a b => ¬ (lessB a x = true ∧ lessB b x = true) := by
      have hq : (lightL (a :: r)).Pairwise fun a b => alikeB b a = false := by
        rw [lightL, List.pairwise_cons]
        exact ⟨h1, h2⟩
      refine hq.imp ?_
      intro b c hbc hh
      obtain ⟨q1, q2⟩ := hh
      rw [less_iff] at q1 q2
      have : alikeB c b = true := alike_iff.2 (by omega)
      rw [this] at hbc; cases hbc
    have hle := count_one ap
    have hge : 0 < (lightL (a :: r)).countP (fun y => lessB y x) := by
      rw [List.countP_pos_iff]
      rcases List.mem_cons.1 hx' with rfl | hr
      · exact ⟨x, List.mem_cons_self, less_iff.2 (by omega)⟩
      · rcases h3 x hr with h4 | ⟨y, hy, h4⟩
        · exact ⟨a, List.mem_cons_self, h4⟩
        · exact ⟨y, List.mem_cons_of_mem _ hy, h4⟩
    omega
theorem countP_take {l : List Ar} {k : Nat} (h : k < l.length) (p : Ar → Bool) : (l.take (k + 1)).countP p = (l.take k).countP p + (if p (el l k) = true then 1 else 0) := by
  rw [take_el h, List.countP_append]
  rcases bool_cases' (p (el l k)) with e | e <;> simp [e]
theorem merge_sub (l : List Ar) (a : Ar) (h : a ∈ lightL (sortS false l)) : a ∈ l := (sortS_perm false l).mem_iff.1 (lightL_mem h)
theorem merge_le (l : List Ar) : (lightL (sortS false l)).length ≤ l.length := by have := lightL_le (sortS false l); rw [sortS_length] at this; exact this
end Go.Proofs.Ytjpfpdbhdcopbaa.Pl
