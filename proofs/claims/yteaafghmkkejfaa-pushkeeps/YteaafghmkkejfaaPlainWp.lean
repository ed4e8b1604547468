/- The best of all cuts of two words (no program in sight). -/
import Derived.Test.YteaafghmkkejfaaJ15f
namespace Go.Proofs.Yteaafghmkkejfaa.Pl
set_option linter.unusedVariables false
set_option linter.unusedSimpArgs false
/-- Both costs together. -/
def bothI (a b : Int) : Int := if a = 1000000001 ∨ b = 1000000001 then 1000000001 else a + b
/-- The least of what is told of the pairs in S. -/
def MinOf (S : Nat → Nat → Prop) (g : Nat → Nat → Int) (v : Int) : Prop := (v = 1000000001 ∨ ∃ i j, S i j ∧ v = g i j) ∧ v ≤ 1000000001 ∧ ∀ i j, S i j → v ≤ g i j
theorem MinOf.none {S : Nat → Nat → Prop} {g : Nat → Nat → Int} (h : ∀ i j, ¬ S i j) : MinOf S g 1000000001 := ⟨.inl rfl, by omega, fun i j hs => absurd hs (h i j)⟩
theorem MinOf.same {S T : Nat → Nat → Prop} {g : Nat → Nat → Int} {v : Int} (h : MinOf S g v) (e : ∀ i j, S i j ↔ T i j) : MinOf T g v := by
  have : S = T := funext fun i => funext fun j => propext (e i j)
  rwa [← this]
theorem MinOf.more {S T : Nat → Nat → Prop} {g : Nat → Nat → Int} {v : Int} (h : MinOf S g v) {i j : Nat} (e : ∀ i' j', T i' j' ↔ S i' j' ∨ (i' = i ∧ j' = j)) : MinOf T g (min v (g i j)) := by
  obtain ⟨h1, h2, h3⟩ := h
  refine ⟨?_, by omega, fun i' j' ht => ?_⟩
  · by_cases hl : v ≤ g i j
    · rw [Int.min_eq_left hl]
      rcases h1 with h1 | ⟨a, b, hs, he⟩
      · exact .inl h1
      · exact .inr ⟨a, b, (e a b).2 (.inl hs), he⟩
    · rw [Int.min_eq_right (by omega)]
      exact .inr ⟨i, j, (e i j).2 (.inr ⟨rfl, rfl⟩), rfl⟩
  · rcases (e i' j').1 ht with hs | ⟨rfl, rfl⟩
    · have := h3 i' j' hs
      omega
    · omega
theorem CstIs.range {P : Nat → Prop} {n : Int} (h : CstIs P n) : 0 ≤ n ∧ n ≤ 1000000001 := by
  rcases h with ⟨rfl, _⟩ | ⟨c, _, _, rfl⟩ <;> omega
theorem CstIs.inf {P : Nat → Prop} {n : Int} (h : CstIs P n) (hn : n ≠ 1000000001) : P n.toNat ∧ n ≤ 100000000 := by
  rcases h with ⟨rfl, _⟩ | ⟨c, hc, hb, rfl⟩
  · exact absurd rfl hn
  · rw [Int.toNat_natCast]; exact ⟨hc.1, by omega⟩
theorem CstIs.low {P : Nat → Prop} {n : Int} (h : CstIs P n) {c : Nat} (hc : P c) : n ≠ 1000000001 ∧ n ≤ (c : Int) := by
  rcases h with ⟨_, h⟩ | ⟨d, hd, hb, rfl⟩
  · exact absurd hc (h c)
  · have := hd.2 c hc; omega
/-- The best cut is what all together cost. -/
theorem best_cut {P1 P2 : Nat → Nat → Nat → Prop} {R : Nat → Prop} {A B : Nat → Nat → Int} {S : Nat → Nat → Prop} {n v : Int} (hA : ∀ i j, S i j → CstIs (P1 i j) (A i j)) (hB : ∀ i j, S i j → CstIs (P2 i j) (B i j))
    (h1 : ∀ i j c1 c2, S i j → P1 i j c1 → P2 i j c2 → R (c1 + c2)) (h2 : ∀ c, R c → ∃ i j c1 c2, S i j ∧ P1 i j c1 ∧ P2 i j c2 ∧ c1 + c2 ≤ c) (hn : CstIs R n) (hv : MinOf S (fun i j => bothI (A i j) (B i j)) v) : n = v := by
  obtain ⟨v1, v2, v3⟩ := hv
  simp only at v1 v3
  have fin : ∀ i j, S i j → bothI (A i j) (B i j) ≠ 1000000001 → ∃ c : Nat, R c ∧ bothI (A i j) (B i j) = (c : Int) := fun i j hs hne => by
    unfold bothI at hne ⊢
    by_cases h : A i j = 1000000001 ∨ B i j = 1000000001
    · rw [if_pos h] at hne; exact absurd rfl hne
    · rw [if_neg h]
      have ha := (hA i j hs).inf (fun e => h (.inl e))
      have hb := (hB i j hs).inf (fun e => h (.inr e))
      have r1 := (hA i j hs).range
      have r2 := (hB i j hs).range
      exact ⟨_, h1 i j _ _ hs ha.1 hb.1, by omega⟩
  have low : ∀ c, R c → v ≤ (c : Int) := fun c hc => by
    obtain ⟨i, j, c1, c2, hs, p1, p2, hle⟩ := h2 c hc
    have ha := (hA i j hs).low p1
    have hb := (hB i j hs).low p2
    have h3 := v3 i j hs
    unfold bothI at h3
    rw [if_neg (fun h => h.elim ha.1 hb.1)] at h3
    omega
  rcases hn with ⟨rfl, hn⟩ | ⟨c, hc, hb, rfl⟩
  · rcases v1 with rfl | ⟨i, j, hs, hv⟩
    · rfl
    · by_cases h : bothI (A i j) (B i j) = 1000000001
      · rw [hv, h]
      · obtain ⟨d, hd, _⟩ := fin i j hs h
        exact absurd hd (hn d)
  · have hle := low c hc.1
    rcases v1 with rfl | ⟨i, j, hs, hv⟩
    · omega
    · by_cases h : bothI (A i j) (B i j) = 1000000001
      · omega
      · obtain ⟨d, hd, he⟩ := fin i j hs h
        have := hc.2 d hd
        omega
/-- A cost is always told. -/
theorem cst_exists {P : Nat → Prop} (hb : ∀ c, P c → ∃ d, d ≤ 100000000 ∧ P d) : ∃ n, CstIs P n := by
  by_cases h : ∃ c, P c
  · obtain ⟨c, hc⟩ := h
    have key : ∀ k, (∃ d, d ≤ k ∧ P d) → ∃ c, LeastP P c ∧ c ≤ k := by
      intro k
      induction k with
      | zero =>
        rintro ⟨d, hd, hp⟩
        obtain rfl : d = 0 := by omega
        exact ⟨0, ⟨hp, fun _ _ => Nat.zero_le _⟩, Nat.le_refl _⟩
      | succ k ih =>
        rintro ⟨d, hd, hp⟩
        by_cases g : ∃ d, d ≤ k ∧ P d
        · obtain ⟨c, h1, h2⟩ := ih g
          exact ⟨c, h1, by omega⟩
        · have hdk : d = k + 1 := by
            by_cases e : d ≤ k
            · exact absurd ⟨d, e, hp⟩ g
            · omega
          subst hdk
          refine ⟨k + 1, ⟨hp, fun e he => ?_⟩, Nat.le_refl _⟩
          by_cases g2 : e ≤ k
          · exact absurd ⟨e, g2, he⟩ g
          · omega
    obtain ⟨c, h1, h2⟩ := key 100000000 (hb c hc)
    exact ⟨_, .inr ⟨c, h1, h2, rfl⟩⟩
  · exact ⟨_, .inl ⟨rfl, fun c hc => h ⟨c, hc⟩⟩⟩
/-- All pairs up to one of them, row by row. -/
def Upto (Y : Nat) (i j i' j' : Nat) : Prop := i' < i ∧ j' ≤ Y ∨ i' = i ∧ j' < j
theorem upto_step {Y i j : Nat} (i' j' : Nat) : Upto Y i (j + 1) i' j' ↔ Upto Y i j i' j' ∨ (i' = i ∧ j' = j) := by unfold Upto; omega
theorem upto_row {Y i : Nat} (i' j' : Nat) : Upto Y i (Y + 1) i' j' ↔ Upto Y (i + 1) 0 i' j' := by unfold Upto; omega
/-- Cuts of two words. -/
theorem cut_all {a b : Mc} (ta : ToIn a.2) (tb : ToIn b.2) (sa : a.1 < (a.2.length : Int)) (sb : b.1 < (b.2.length : Int)) (x y : List Int) :
    (∀ i j c1 c2, i ≤ x.length ∧ j ≤ y.length → Costs a (x.take i) (y.take j) c1 → Costs b (x.drop i) (y.drop j) c2 → Costs (catM a b) x y (c1 + c2)) ∧
    (∀ c, Costs (catM a b) x y c → ∃ i j c1 c2, (i ≤ x.length ∧ j ≤ y.length) ∧ Costs a (x.take i) (y.take j) c1 ∧ Costs b (x.drop i) (y.drop j) c2 ∧ c1 + c2 ≤ c) := by
  refine ⟨fun i j c1 c2 _ h1 h2 => (costs_cat ta tb sa sb x y _).2 ⟨_, _, _, _, c1, c2, (List.take_append_drop i x).symm, (List.take_append_drop j y).symm, h1, h2, rfl⟩, fun c h => ?_⟩
  obtain ⟨x1, x2, y1, y2, c1, c2, rfl, rfl, h1, h2, rfl⟩ := (costs_cat ta tb sa sb x y c).1 h
  exact ⟨x1.length, y1.length, c1, c2, ⟨by simp, by simp⟩, by simpa using h1, by simpa using h2, Nat.le_refl _⟩
theorem Stc.cons {a : Mc} {x' y' : List Int} {d : Nat} (k : Costs a x' y' d) {x y : List Int} {c : Nat} (h : Stc a x y c) : Stc a (x' ++ x) (y' ++ y) (d + c) := by
  induction h with
  | nil => simpa using Stc.snoc Stc.nil k
  | snoc h k' ih =>
    have := Stc.snoc ih k'
    rwa [List.append_assoc, List.append_assoc, Nat.add_assoc] at this
theorem Stc.first {a : Mc} {x y : List Int} {c : Nat} (h : Stc a x y c) : (x = [] ∧ y = []) ∨ ∃ x1 y1 c1 x2 y2 c2, 0 < x1.length + y1.length ∧ Costs a x1 y1 c1 ∧ Stc a x2 y2 c2 ∧ x = x1 ++ x2 ∧ y = y1 ++ y2 ∧ c1 + c2 ≤ c := by
  induction h with
  | nil => exact .inl ⟨rfl, rfl⟩
  | snoc h k ih =>
    rename_i x y x' y' c d
    rcases ih with ⟨rfl, rfl⟩ | ⟨x1, y1, c1, x2, y2, c2, h0, h1, h2, rfl, rfl, hle⟩
    · by_cases g : 0 < x'.length + y'.length
      · exact .inr ⟨x', y', d, [], [], 0, g, k, Stc.nil, by simp, by simp, by omega⟩
      · have e1 : x' = [] := List.eq_nil_of_length_eq_zero (by omega)
        have e2 : y' = [] := List.eq_nil_of_length_eq_zero (by omega)
        subst e1 e2
        exact .inl ⟨rfl, rfl⟩
    · exact .inr ⟨x1, y1, c1, x2 ++ x', y2 ++ y', c2 + d, h0, h1, Stc.snoc h2 k, by simp, by simp, by omega⟩
theorem cut_star {a : Mc} (ta : ToIn a.2) (sa : a.1 < (a.2.length : Int)) (x y : List Int) (hne : 0 < x.length + y.length) :
    (∀ i j c1 c2, (i ≤ x.length ∧ j ≤ y.length) ∧ 0 < i + j → Costs a (x.take i) (y.take j) c1 → Costs (staM a) (x.drop i) (y.drop j) c2 → Costs (staM a) x y (c1 + c2)) ∧
    (∀ c, Costs (staM a) x y c → ∃ i j c1 c2, ((i ≤ x.length ∧ j ≤ y.length) ∧ 0 < i + j) ∧ Costs a (x.take i) (y.take j) c1 ∧ Costs (staM a) (x.drop i) (y.drop j) c2 ∧ c1 + c2 ≤ c) := by
  refine ⟨fun i j c1 c2 _ h1 h2 => (costs_sta ta sa x y _).2 ?_, fun c h => ?_⟩
  · have := Stc.cons h1 ((costs_sta ta sa _ _ _).1 h2)
    rwa [List.take_append_drop, List.take_append_drop] at this
  · rcases ((costs_sta ta sa x y c).1 h).first with ⟨rfl, rfl⟩ | ⟨x1, y1, c1, x2, y2, c2, h0, h1, h2, rfl, rfl, hle⟩
    · simp at hne
    · exact ⟨x1.length, y1.length, c1, c2, ⟨⟨by simp, by simp⟩, h0⟩, by simpa using h1, by simpa using (costs_sta ta sa _ _ _).2 h2, hle⟩
theorem star_nil {a : Mc} (ta : ToIn a.2) (sa : a.1 < (a.2.length : Int)) {n : Int} (h : CstIs (Costs (staM a) [] []) n) : n = 0 := by
  have h1 := h.low ((costs_sta ta sa [] [] 0).2 Stc.nil)
  have h2 := h.range
  omega
end Go.Proofs.Yteaafghmkkejfaa.Pl
