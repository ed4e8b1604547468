/- What a machine costs for words: turned round (no program in sight). -/
import Derived.Test.YtnbiojjcebdljaaPlainWg
import Derived.Test.YtnbiojjcebdljaaPlainTw
namespace Go.Proofs.Ytnbiojjcebdljaa.Pl
set_option linter.unusedVariables false
set_option linter.unusedSimpArgs false
theorem el_in {l : List St} {p : Nat} {a : Ar} (h : a ∈ (el l p).2) : p < l.length := by
  rcases Nat.lt_or_ge p l.length with g | g
  · exact g
  · have : el l p = default := by simp [el, g]
    rw [this] at h
    exact absurd h (by simp [default])
/-- The labels of all arcs exchanged, or put for each other. -/
theorem Way.map {l : List St} {k : Int} {q p c : Nat} {u v : List Int} (h : Way l q u v p c) {U V : List Int → List Int → List Int}
    (hU0 : U [] [] = []) (hV0 : V [] [] = []) (hU : ∀ u v (a : Ar), U (u ++ lab a.1) (v ++ lab a.2.1) = U u v ++ lab (tuA k a).1) (hV : ∀ u v (a : Ar), V (u ++ lab a.1) (v ++ lab a.2.1) = V u v ++ lab (tuA k a).2.1) : Way (l.map (tuS k)) q (U u v) (V u v) p c := by
  induction h with
  | nil => rw [hU0, hV0]; exact .nil
  | snoc h ha ht ih =>
    rw [hU, hV]
    refine ih.snoc (a := tuA k _) ?_ ht
    rw [el_map (el_in ha)]
    exact List.mem_map_of_mem ha
theorem way_over {l : List St} {q p c : Nat} {u v : List Int} (h : Way l q u v p c) : Way (l.map (tuS 0)) q v u p c :=
  h.map (U := fun _ v => v) (V := fun u _ => u) rfl rfl (fun u v a => by simp [tuA]) (fun u v a => by simp [tuA])
theorem over_list (l : List St) : (l.map (tuS 0)).map (tuS 0) = l := by
  have := over_over (0, l)
  simp only [tuM, Prod.mk.injEq, true_and] at this
  exact this
theorem way_over_iff {l : List St} {q p c : Nat} {u v : List Int} : Way (l.map (tuS 0)) q u v p c ↔ Way l q v u p c :=
  ⟨fun h => by have := way_over h; rwa [over_list] at this, way_over⟩
theorem way_reads {l : List St} {q p c : Nat} {u v : List Int} (h : Way l q u v p c) : Way (l.map (tuS 1)) q u u p c :=
  h.map (U := fun u _ => u) (V := fun u _ => u) rfl rfl (fun u v a => by simp [tuA]) (fun u v a => by simp [tuA])
theorem reads_way {l : List St} {q p c : Nat} {u v : List Int} (h : Way (l.map (tuS 1)) q u v p c) : v = u ∧ ∃ v', Way l q u v' p c := by
  induction h with
  | nil => exact ⟨rfl, [], .nil⟩
  | snoc h ha ht ih =>
    obtain ⟨rfl, v', hw⟩ := ih
    have hp := el_in ha
    rw [List.length_map] at hp
    rw [el_map hp] at ha
    simp only [tuS, List.mem_map] at ha
    obtain ⟨b, hb, rfl⟩ := ha
    refine ⟨by simp [tuA], v' ++ lab b.2.1, ?_⟩
    have := hw.snoc hb (t := _) ht
    simpa [tuA] using this
theorem tu_final {k : Int} {l : List St} {p : Nat} (h : p < l.length) : (el (l.map (tuS k)) p).1 = (el l p).1 := by rw [el_map h]; rfl
/-- P11.1: inverted it costs the same for the words exchanged. -/
theorem costs_over (m : Mc) (x y : List Int) (c : Nat) : Costs (tuM 0 m) x y c ↔ Costs m y x c := by
  constructor
  · rintro ⟨h0, p, d, hw, hp, hf, rfl⟩
    have hp' : p < m.2.length := by simpa [tuM] using hp
    refine ⟨h0, p, d, way_over_iff.1 hw, hp', ?_, ?_⟩
    · rw [← tu_final (k := 0) hp']; exact hf
    · rw [← tu_final (k := 0) hp']; rfl
  · rintro ⟨h0, p, d, hw, hp, hf, rfl⟩
    refine ⟨h0, p, d, way_over_iff.2 hw, by simpa [tuM] using hp, ?_, ?_⟩
    · show (el (m.2.map (tuS 0)) p).1 ≠ _
      rw [tu_final hp]; exact hf
    · show _ = d + (el (m.2.map (tuS 0)) p).1.toNat
      rw [tu_final hp]
/-- P11.2: what is read, whatever is written. -/
theorem costs_reads (m : Mc) (x : List Int) (c : Nat) : Costs (tuM 1 m) x x c ↔ CostsR m x c := by
  constructor
  · rintro ⟨h0, p, d, hw, hp, hf, rfl⟩
    have hp' : p < m.2.length := by simpa [tuM] using hp
    obtain ⟨_, v', hw'⟩ := reads_way hw
    refine ⟨v', h0, p, d, hw', hp', ?_, ?_⟩
    · rw [← tu_final (k := 1) hp']; exact hf
    · rw [← tu_final (k := 1) hp']; rfl
  · rintro ⟨v, h0, p, d, hw, hp, hf, rfl⟩
    refine ⟨h0, p, d, way_reads hw, by simpa [tuM] using hp, ?_, ?_⟩
    · show (el (m.2.map (tuS 1)) p).1 ≠ _
      rw [tu_final hp]; exact hf
    · show _ = d + (el (m.2.map (tuS 1)) p).1.toNat
      rw [tu_final hp]
/-! From behind. -/
theorem lab_rev (a : Int) : (lab a).reverse = lab a := by unfold lab; split <;> rfl
theorem into_mem {l : List St} {t q : Nat} {a : Ar} (ha : a ∈ (el l q).2) (ht : a.2.2.2 = (t : Int)) : ∀ {k : Nat}, q < k → (a.1, a.2.1, a.2.2.1, (q : Int) + 1) ∈ intoL l t k
  | 0, h => by omega
  | k + 1, h => by
    simp only [intoL, List.mem_append]
    by_cases e : q = k
    · subst e
      right
      simp only [intoA, List.mem_map, List.mem_filter, decide_eq_true_eq]
      exact ⟨a, ⟨ha, ht⟩, rfl⟩
    · exact .inl (into_mem ha ht (by omega))
theorem first_mem {l : List St} {q : Nat} (hf : (el l q).1 ≠ 1000000001) : ∀ {k : Nat}, q < k → (0, 0, (el l q).1, (q : Int) + 1) ∈ firstL l k
  | 0, h => by omega
  | k + 1, h => by
    simp only [firstL, List.mem_append]
    by_cases e : q = k
    · subst e
      right
      rw [if_neg hf]
      simp
    · exact .inl (first_mem hf (by omega))
theorem way_back {m : Mc} (hto : ∀ q, q < m.2.length → ∀ a ∈ (el m.2 q).2, ∃ t : Nat, a.2.2.2 = (t : Int) ∧ t < m.2.length) {q p c : Nat} {u v : List Int} (h : Way m.2 q u v p c) : Way (revM m).2 (p + 1) u.reverse v.reverse (q + 1) c := by
  induction h with
  | nil => exact .nil
  | snoc h ha ht ih =>
    rename_i u v p c a t
    have hp := el_in ha
    obtain ⟨t', e1, e2⟩ := hto _ hp a ha
    have : t = t' := by omega
    subst this
    rw [List.reverse_append, List.reverse_append, lab_rev, lab_rev, Nat.add_comm c]
    have hm : (a.1, a.2.1, a.2.2.1, (p : Int) + 1) ∈ (el (revM m).2 (t + 1)).2 := by
      rw [rev_elS m e2]
      exact into_mem ha ht hp
    exact Way.cons (a := (a.1, a.2.1, a.2.2.1, (p : Int) + 1)) hm (t := p + 1) (by simp) ih
theorem back_way {m : Mc} {p r c : Nat} {u v : List Int} (hp : p < m.2.length) (h : Way (revM m).2 (p + 1) u v r c) : ∃ q, r = q + 1 ∧ q < m.2.length ∧ Way m.2 q u.reverse v.reverse p c := by
  induction h with
  | nil => exact ⟨p, rfl, hp, .nil⟩
  | snoc h ha ht ih =>
    obtain ⟨q, rfl, hq, hw⟩ := ih
    rw [rev_elS m hq] at ha
    obtain ⟨j, hj, b, hb, hbt, rfl⟩ := mem_into ha
    simp only at ht
    refine ⟨j, by omega, hj, ?_⟩
    have := Way.cons hb hbt hw
    rw [List.reverse_append, List.reverse_append, lab_rev, lab_rev, Nat.add_comm]
    exact this
/-- P11.4: reversed it costs the same for the words from behind. -/
theorem costs_rev {m : Mc} (hto : ∀ q, q < m.2.length → ∀ a ∈ (el m.2 q).2, ∃ t : Nat, a.2.2.2 = (t : Int) ∧ t < m.2.length) (hz : m.1 < (m.2.length : Int)) (x y : List Int) (c : Nat) : Costs (revM m) x.reverse y.reverse c ↔ Costs m x y c := by
  constructor
  · rintro ⟨_, p, d, hw, hp, hf, rfl⟩
    have e0 : (revM m).1.toNat = 0 := rfl
    rw [e0] at hw
    rcases hw.first with ⟨_, _, rfl, _⟩ | ⟨a, ha, t, u', v', c', ht, hw', hu, hv, rfl⟩
    · rw [rev_el0] at hf; exact absurd rfl hf
    · rw [rev_el0] at ha
      obtain ⟨j, hj, hfj, rfl⟩ := mem_first ha
      simp only at ht
      obtain rfl : t = j + 1 := by omega
      obtain ⟨q, rfl, hq, hq'⟩ := back_way hj hw'
      rw [rev_elS m hq] at hf ⊢
      simp only [revS] at hf ⊢
      by_cases hqz : (q : Int) = m.1
      · rw [if_pos hqz]
        simp only [lab, if_true, List.nil_append] at hu hv
        rw [← hu, ← hv, List.reverse_reverse, List.reverse_reverse] at hq'
        refine ⟨by omega, j, c', ?_, hj, hfj, by simp; omega⟩
        rw [show m.1.toNat = q by omega]
        exact hq'
      · rw [if_neg hqz] at hf; exact absurd rfl hf
  · rintro ⟨h0, p, d, hw, hp, hf, rfl⟩
    refine ⟨Int.le_refl 0, m.1.toNat + 1, (el m.2 p).1.toNat + d, ?_, by rw [revM_len]; omega, ?_, ?_⟩
    · have h1 := way_back hto hw
      have hm : (0, 0, (el m.2 p).1, (p : Int) + 1) ∈ (el (revM m).2 0).2 := by
        rw [rev_el0]
        exact first_mem hf hp
      have := Way.cons (a := (0, 0, (el m.2 p).1, (p : Int) + 1)) hm (t := p + 1) (by simp) h1
      have e0 : (revM m).1.toNat = 0 := rfl
      rw [e0]
      simpa [lab] using this
    · rw [rev_elS m (by omega)]
      simp only [revS]
      rw [if_pos (by omega)]
      decide
    · rw [rev_elS m (by omega)]
      simp only [revS]
      rw [if_pos (by omega)]
      simp; omega
end Go.Proofs.Ytnbiojjcebdljaa.Pl
