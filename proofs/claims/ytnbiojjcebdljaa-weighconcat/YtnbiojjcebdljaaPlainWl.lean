/- What a machine costs for words: one behind the other, again and again (no program in sight). -/
import Derived.Test.YtnbiojjcebdljaaPlainWk
namespace Go.Proofs.Ytnbiojjcebdljaa.Pl
set_option linter.unusedVariables false
set_option linter.unusedSimpArgs false
theorem shA_same (a : Ar) : shA 0 a = a := by obtain ⟨p, q, r, t⟩ := a; simp [shA]
theorem cat_arcA {a b : Mc} {q : Nat} (hq : q < a.2.length) {e : Ar} : e ∈ (el (catM a b).2 q).2 ↔ e ∈ (el a.2 q).2 ∨ ((el a.2 q).1 ≠ 1000000001 ∧ 0 ≤ b.1 ∧ e = (0, 0, (el a.2 q).1, b.1 + (a.2.length : Int))) := by
  rw [cat_elA a b hq, shS_arcs, List.mem_append]
  constructor
  · rintro (h | h)
    · rw [List.mem_map] at h
      obtain ⟨d, hd, rfl⟩ := h
      rw [shA_same]; exact .inl hd
    · exact .inr (mem_end h)
  · rintro (h | ⟨h1, h2, rfl⟩)
    · exact .inl (List.mem_map.2 ⟨e, h, shA_same e⟩)
    · right
      unfold endA hopA
      rw [if_neg h1, if_neg (by omega)]
      simp
/-- A way in both, one behind the other. -/
theorem cat_way {a b : Mc} (ta : ToIn a.2) (tb : ToIn b.2) (sb : b.1 < (b.2.length : Int)) {q r c : Nat} {u v : List Int} (hq : q < a.2.length) (h : Way (catM a b).2 q u v r c) :
    (r < a.2.length ∧ Way a.2 q u v r c) ∨ ∃ p r' u1 u2 v1 v2 c1 c2, Way a.2 q u1 v1 p c1 ∧ p < a.2.length ∧ (el a.2 p).1 ≠ 1000000001 ∧ 0 ≤ b.1 ∧ Way b.2 b.1.toNat u2 v2 r' c2 ∧ r = r' + a.2.length ∧ r' < b.2.length ∧ u = u1 ++ u2 ∧ v = v1 ++ v2 ∧ c = c1 + (el a.2 p).1.toNat + c2 := by
  induction h with
  | nil => exact .inl ⟨hq, .nil⟩
  | snoc h ha ht ih =>
    rename_i u v r c e t
    rcases ih with ⟨hr, hw⟩ | ⟨p, r', u1, u2, v1, v2, c1, c2, w1, hp, hf, hb, w2, rfl, hr', rfl, rfl, rfl⟩
    · rcases (cat_arcA hr).1 ha with he | ⟨hf, hb, rfl⟩
      · obtain ⟨t', e1, e2⟩ := ta r hr e he
        have : t = t' := by omega
        subst this
        exact .inl ⟨e2, hw.snoc he ht⟩
      · simp only at ht
        refine .inr ⟨r, b.1.toNat, u, [], v, [], c, 0, hw, hr, hf, hb, .nil, by omega, by omega, by simp [lab], by simp [lab], by simp⟩
    · rw [Nat.add_comm r', cat_elB a b hr', shS_arcs, List.append_nil, List.mem_map] at ha
      obtain ⟨d, hd, rfl⟩ := ha
      obtain ⟨t', e1, e2⟩ := tb r' hr' d hd
      simp only [shA] at ht
      exact .inr ⟨p, t', u1, u2 ++ lab d.1, v1, v2 ++ lab d.2.1, c1, c2 + d.2.2.1.toNat, w1, hp, hf, hb, w2.snoc hd e1, by omega, e2, by simp [shA], by simp [shA], by simp [shA]; omega⟩
/-- P10.3. -/
theorem costs_cat {a b : Mc} (ta : ToIn a.2) (tb : ToIn b.2) (sa : a.1 < (a.2.length : Int)) (sb : b.1 < (b.2.length : Int)) (x y : List Int) (c : Nat) : Costs (catM a b) x y c ↔ ∃ x1 x2 y1 y2 c1 c2, x = x1 ++ x2 ∧ y = y1 ++ y2 ∧ Costs a x1 y1 c1 ∧ Costs b x2 y2 c2 ∧ c = c1 + c2 := by
  constructor
  · rintro ⟨hz, p, d, hw, hp, hf, rfl⟩
    have hz' : 0 ≤ a.1 := hz
    have hw' : Way (catM a b).2 a.1.toNat x y p d := hw
    rcases cat_way ta tb sb (by omega) hw' with ⟨hr, _⟩ | ⟨p', r', u1, u2, v1, v2, c1, c2, w1, hp', hf', hb, w2, rfl, hr', rfl, rfl, rfl⟩
    · rw [cat_elA a b hr] at hf; exact absurd rfl hf
    · rw [Nat.add_comm r', cat_elB a b hr'] at hf ⊢
      exact ⟨u1, u2, v1, v2, _, _, rfl, rfl, ⟨hz', p', c1, w1, hp', hf', rfl⟩, ⟨hb, r', c2, w2, hr', hf, rfl⟩, by simp only [shS]; omega⟩
  · rintro ⟨x1, x2, y1, y2, _, _, rfl, rfl, ⟨hz, p, d, hw, hp, hf, rfl⟩, ⟨hb, r, e, hw2, hr, hf2, rfl⟩, rfl⟩
    have h1 : Way (catM a b).2 a.1.toNat x1 y1 p d := by
      have := shift_way (L := (catM a b).2) (s := 0) ta (fun q hq e he => by
        have : shA ((0 : Nat) : Int) e = e := shA_same e
        rw [this]
        exact (cat_arcA hq).2 (.inl he)) hw
      simpa using this
    have h2 : Way (catM a b).2 (b.1.toNat + a.2.length) x2 y2 (r + a.2.length) e := shift_way tb (fun q hq e he => by
      rw [Nat.add_comm q, cat_elB a b hq, shS_arcs, List.append_nil]
      exact List.mem_map_of_mem he) hw2
    have hm : (0, 0, (el a.2 p).1, b.1 + (a.2.length : Int)) ∈ (el (catM a b).2 p).2 := (cat_arcA hp).2 (.inr ⟨hf, hb, rfl⟩)
    have h3 := Way.cons (a := (0, 0, (el a.2 p).1, b.1 + (a.2.length : Int))) hm (t := b.1.toNat + a.2.length) (by simp only; omega) h2
    have h4 := h1.trans h3
    refine ⟨hz, r + a.2.length, d + ((el a.2 p).1.toNat + e), ?_, by rw [catM_len]; omega, ?_, ?_⟩
    · have e0 : (catM a b).1 = a.1 := rfl
      rw [e0]
      simpa [lab] using h4
    · rw [Nat.add_comm r, cat_elB a b hr]; exact hf2
    · rw [Nat.add_comm r, cat_elB a b hr]; simp only [shS]; omega
/-- P10.4: pieces one behind the other. -/
inductive Stc (a : Mc) : List Int → List Int → Nat → Prop
  | nil : Stc a [] [] 0
  | snoc {x y x' y' : List Int} {c d : Nat} (h : Stc a x y c) (k : Costs a x' y' d) : Stc a (x ++ x') (y ++ y') (c + d)
theorem sta_arcS {a : Mc} {q : Nat} (hq : q < a.2.length) {e : Ar} : e ∈ (el (staM a).2 (q + 1)).2 ↔ (∃ d ∈ (el a.2 q).2, e = shA 1 d) ∨ ((el a.2 q).1 ≠ 1000000001 ∧ e = (0, 0, (el a.2 q).1, 0)) := by
  rw [sta_elA a hq, shS_arcs, List.mem_append]
  constructor
  · rintro (h | h)
    · rw [List.mem_map] at h
      obtain ⟨d, hd, rfl⟩ := h
      exact .inl ⟨d, hd, rfl⟩
    · obtain ⟨h1, _, h3⟩ := mem_end h
      exact .inr ⟨h1, h3⟩
  · rintro (⟨d, hd, rfl⟩ | ⟨h1, rfl⟩)
    · exact .inl (List.mem_map_of_mem hd)
    · right
      unfold endA hopA
      rw [if_neg h1, if_neg (by omega)]
      simp
/-- A way in a star: whole pieces, and a piece that is under way. -/
theorem sta_way {a : Mc} (ta : ToIn a.2) (sa : a.1 < (a.2.length : Int)) {r c : Nat} {u v : List Int} (h : Way (staM a).2 0 u v r c) :
    (r = 0 ∧ Stc a u v c) ∨ ∃ p u1 u2 v1 v2 c1 c2, r = p + 1 ∧ p < a.2.length ∧ 0 ≤ a.1 ∧ Stc a u1 v1 c1 ∧ Way a.2 a.1.toNat u2 v2 p c2 ∧ u = u1 ++ u2 ∧ v = v1 ++ v2 ∧ c = c1 + c2 := by
  induction h with
  | nil => exact .inl ⟨rfl, .nil⟩
  | snoc h ha ht ih =>
    rename_i u v r c e t
    rcases ih with ⟨rfl, hs⟩ | ⟨p, u1, u2, v1, v2, c1, c2, rfl, hp, hz, hs, hw, rfl, rfl, rfl⟩
    · rw [sta_el0] at ha
      obtain ⟨hz, rfl⟩ := mem_hop ha
      simp only at ht
      exact .inr ⟨a.1.toNat, u, [], v, [], c, 0, by omega, by omega, hz, hs, .nil, by simp [lab], by simp [lab], by simp⟩
    · rcases (sta_arcS hp).1 ha with ⟨d, hd, rfl⟩ | ⟨hf, rfl⟩
      · obtain ⟨t', e1, e2⟩ := ta p hp d hd
        simp only [shA] at ht
        exact .inr ⟨t', u1, u2 ++ lab d.1, v1, v2 ++ lab d.2.1, c1, c2 + d.2.2.1.toNat, by omega, e2, hz, hs, hw.snoc hd e1, by simp [shA], by simp [shA], by simp [shA]; omega⟩
      · simp only at ht
        obtain rfl : t = 0 := by omega
        left
        refine ⟨rfl, ?_⟩
        have := hs.snoc ⟨hz, p, c2, hw, hp, hf, rfl⟩
        simpa [lab, Nat.add_assoc] using this
theorem way_sta {a : Mc} (ta : ToIn a.2) (sa : a.1 < (a.2.length : Int)) {u v : List Int} {c : Nat} (h : Stc a u v c) : Way (staM a).2 0 u v 0 c := by
  induction h with
  | nil => exact .nil
  | snoc h k ih =>
    obtain ⟨hz, p, d, hw, hp, hf, rfl⟩ := k
    have h1 := shift_way (L := (staM a).2) (s := 1) ta (fun q hq e he => (sta_arcS hq).2 (.inl ⟨e, he, rfl⟩)) hw
    have hm : (0, 0, 0, a.1 + 1) ∈ (el (staM a).2 0).2 := by
      rw [sta_el0]
      unfold hopA
      rw [if_neg (by omega)]
      simp
    have h2 := Way.cons (a := (0, 0, 0, a.1 + 1)) hm (t := a.1.toNat + 1) (by simp only; omega) h1
    have h3 := h2.snoc (a := (0, 0, (el a.2 p).1, 0)) ((sta_arcS hp).2 (.inr ⟨hf, rfl⟩)) (t := 0) rfl
    have h4 := ih.trans h3
    simpa [lab, Nat.add_assoc] using h4
theorem costs_sta {a : Mc} (ta : ToIn a.2) (sa : a.1 < (a.2.length : Int)) (x y : List Int) (c : Nat) : Costs (staM a) x y c ↔ Stc a x y c := by
  constructor
  · rintro ⟨_, p, d, hw, hp, hf, rfl⟩
    have hw' : Way (staM a).2 0 x y p d := hw
    rcases sta_way ta sa hw' with ⟨rfl, hs⟩ | ⟨q, _, _, _, _, _, _, rfl, hq, _⟩
    · rw [sta_el0]
      simpa using hs
    · rw [sta_elA a hq] at hf; exact absurd rfl hf
  · intro h
    refine ⟨Int.le_refl 0, 0, c, way_sta ta sa h, by rw [staM_len]; omega, ?_, ?_⟩
    · rw [sta_el0]; simp
    · rw [sta_el0]; simp
end Go.Proofs.Ytnbiojjcebdljaa.Pl
