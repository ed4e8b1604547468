/- What a machine costs for words: one machine or the other, one behind the other (no program in sight). -/
import Derived.Test.YtnbiojjcebdljaaPlainWj
import Derived.Test.YtnbiojjcebdljaaPlainRb
namespace Go.Proofs.Ytnbiojjcebdljaa.Pl
set_option linter.unusedVariables false
set_option linter.unusedSimpArgs false
def ToIn (l : List St) : Prop := ∀ q, q < l.length → ∀ a ∈ (el l q).2, ∃ t : Nat, a.2.2.2 = (t : Int) ∧ t < l.length
/-- A machine within another one, s states further. -/
theorem shift_way {l L : List St} {s : Nat} (hto : ToIn l) (hin : ∀ q, q < l.length → ∀ a ∈ (el l q).2, shA (s : Int) a ∈ (el L (q + s)).2) {q p c : Nat} {u v : List Int} (h : Way l q u v p c) : Way L (q + s) u v (p + s) c := by
  induction h with
  | nil => exact .nil
  | snoc h ha ht ih => exact ih.snoc (hin _ (el_in ha) _ ha) (by simp [shA, ht])
theorem unshift_way {l L : List St} {s : Nat} (hto : ToIn l) (hout : ∀ q, q < l.length → ∀ a ∈ (el L (q + s)).2, ∃ b ∈ (el l q).2, a = shA (s : Int) b) {q r c : Nat} {u v : List Int} (hq : q < l.length) (h : Way L (q + s) u v r c) : ∃ p, r = p + s ∧ p < l.length ∧ Way l q u v p c := by
  induction h with
  | nil => exact ⟨q, rfl, hq, .nil⟩
  | snoc h ha ht ih =>
    obtain ⟨p, rfl, hp, hw⟩ := ih
    obtain ⟨b, hb, rfl⟩ := hout p hp _ ha
    obtain ⟨t, e1, e2⟩ := hto p hp b hb
    simp only [shA] at ht
    refine ⟨t, by omega, e2, ?_⟩
    exact hw.snoc hb e1
theorem shS_arcs (d f : Int) (ex : List Ar) (s : St) : (shS d f ex s).2 = s.2.map (shA d) ++ ex := rfl
/-- P10.2. -/
theorem costs_uni {a b : Mc} (ta : ToIn a.2) (tb : ToIn b.2) (sa : a.1 < (a.2.length : Int)) (sb : b.1 < (b.2.length : Int)) (x y : List Int) (c : Nat) : Costs (uniM a b) x y c ↔ Costs a x y c ∨ Costs b x y c := by
  have inA : ∀ q, q < a.2.length → ∀ e ∈ (el a.2 q).2, shA ((1 : Nat) : Int) e ∈ (el (uniM a b).2 (q + 1)).2 := fun q hq e he => by
    rw [uni_elA a b hq, shS_arcs, List.append_nil]
    exact List.mem_map_of_mem he
  have outA : ∀ q, q < a.2.length → ∀ e ∈ (el (uniM a b).2 (q + 1)).2, ∃ d ∈ (el a.2 q).2, e = shA ((1 : Nat) : Int) d := fun q hq e he => by
    rw [uni_elA a b hq, shS_arcs, List.append_nil, List.mem_map] at he
    obtain ⟨d, hd, rfl⟩ := he
    exact ⟨d, hd, rfl⟩
  have elB : ∀ q, q < b.2.length → el (uniM a b).2 (q + (a.2.length + 1)) = shS (1 + (a.2.length : Int)) (el b.2 q).1 [] (el b.2 q) := fun q hq => by rw [Nat.add_comm q]; exact uni_elB a b hq
  have hs : ((a.2.length + 1 : Nat) : Int) = 1 + (a.2.length : Int) := by omega
  have inB' : ∀ q, q < b.2.length → ∀ e ∈ (el b.2 q).2, shA ((a.2.length + 1 : Nat) : Int) e ∈ (el (uniM a b).2 (q + (a.2.length + 1))).2 := fun q hq e he => by
    rw [elB q hq, shS_arcs, List.append_nil, hs]
    exact List.mem_map_of_mem he
  have outB : ∀ q, q < b.2.length → ∀ e ∈ (el (uniM a b).2 (q + (a.2.length + 1))).2, ∃ d ∈ (el b.2 q).2, e = shA ((a.2.length + 1 : Nat) : Int) d := fun q hq e he => by
    rw [elB q hq, shS_arcs, List.append_nil, List.mem_map] at he
    obtain ⟨d, hd, rfl⟩ := he
    exact ⟨d, hd, by rw [hs]⟩
  constructor
  · rintro ⟨_, p, d, hw, hp, hf, rfl⟩
    have e0 : (uniM a b).1.toNat = 0 := rfl
    rw [e0] at hw
    rcases hw.first with ⟨_, _, rfl, _⟩ | ⟨e, he, t, u', v', c', ht, hw', hu, hv, rfl⟩
    · rw [uni_el0] at hf; exact absurd rfl hf
    · rw [uni_el0, List.mem_append] at he
      rcases he with he | he
      · obtain ⟨hz, rfl⟩ := mem_hop he
        simp only at ht
        obtain rfl : t = a.1.toNat + 1 := by omega
        obtain ⟨r, rfl, hr, hw2⟩ := unshift_way ta outA (by omega) hw'
        rw [uni_elA a b hr] at hf ⊢
        simp only [lab, if_true, List.nil_append] at hu hv
        subst hu; subst hv
        exact .inl ⟨hz, r, c', hw2, hr, hf, by simp [shS]⟩
      · obtain ⟨hz, rfl⟩ := mem_hop he
        simp only at ht
        obtain rfl : t = b.1.toNat + (a.2.length + 1) := by omega
        obtain ⟨r, rfl, hr, hw2⟩ := unshift_way tb outB (by omega) hw'
        rw [elB r hr] at hf ⊢
        simp only [lab, if_true, List.nil_append] at hu hv
        subst hu; subst hv
        exact .inr ⟨hz, r, c', hw2, hr, hf, by simp [shS]⟩
  · rintro (⟨hz, p, d, hw, hp, hf, rfl⟩ | ⟨hz, p, d, hw, hp, hf, rfl⟩)
    · have h1 := shift_way ta inA hw
      have hm : (0, 0, 0, a.1 + 1) ∈ (el (uniM a b).2 0).2 := by
        rw [uni_el0]
        refine List.mem_append_left _ ?_
        unfold hopA
        rw [if_neg (by omega)]
        simp
      have h2 := Way.cons (a := (0, 0, 0, a.1 + 1)) hm (t := a.1.toNat + 1) (by simp only; omega) h1
      refine ⟨Int.le_refl 0, p + 1, d, ?_, by rw [uniM_len]; omega, ?_, ?_⟩
      · have e0 : (uniM a b).1.toNat = 0 := rfl
        rw [e0]
        simpa [lab] using h2
      · rw [uni_elA a b hp]; exact hf
      · rw [uni_elA a b hp]; rfl
    · have h1 := shift_way tb inB' hw
      have hm : (0, 0, 0, b.1 + (1 + (a.2.length : Int))) ∈ (el (uniM a b).2 0).2 := by
        rw [uni_el0]
        refine List.mem_append_right _ ?_
        unfold hopA
        rw [if_neg (by omega)]
        simp
      have h2 := Way.cons (a := (0, 0, 0, b.1 + (1 + (a.2.length : Int)))) hm (t := b.1.toNat + (a.2.length + 1)) (by simp only; omega) h1
      refine ⟨Int.le_refl 0, p + (a.2.length + 1), d, ?_, by rw [uniM_len]; omega, ?_, ?_⟩
      · have e0 : (uniM a b).1.toNat = 0 := rfl
        rw [e0]
        simpa [lab] using h2
      · rw [elB p hp]; exact hf
      · rw [elB p hp]; rfl
end Go.Proofs.Ytnbiojjcebdljaa.Pl
