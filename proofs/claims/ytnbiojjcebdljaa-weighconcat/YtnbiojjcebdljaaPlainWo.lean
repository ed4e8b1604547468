/- What machines that were made cost for words: as numbers (no program in sight). -/
import Derived.Test.YtnbiojjcebdljaaPlainWl
import Derived.Test.YtnbiojjcebdljaaPlainWj
import Derived.Test.YtnbiojjcebdljaaPlainWm
import Derived.Test.YtnbiojjcebdljaaPlainWi
import Derived.Test.YtnbiojjcebdljaaPlainW
namespace Go.Proofs.Ytnbiojjcebdljaa.Pl
set_option linter.unusedVariables false
set_option linter.unusedSimpArgs false
/-- A cost as a number. -/
def CstIs (P : Nat → Prop) (n : Int) : Prop := (n = 1000000001 ∧ ∀ c, ¬ P c) ∨ ∃ c : Nat, LeastP P c ∧ c ≤ 100000000 ∧ n = (c : Int)
theorem CstIs.nonneg {P : Nat → Prop} {n : Int} (h : CstIs P n) : 0 ≤ n := by
  rcases h with ⟨rfl, _⟩ | ⟨c, _, _, rfl⟩ <;> omega
theorem CstIs.eq {P Q : Nat → Prop} {a b : Int} (h : CstIs P a) (k : CstIs Q b) (e : ∀ c, P c ↔ Q c) : a = b := by
  have : P = Q := funext fun c => propext (e c)
  subst this
  rcases h with ⟨rfl, h⟩ | ⟨c, hc, _, rfl⟩ <;> rcases k with ⟨rfl, k⟩ | ⟨d, hd, _, rfl⟩
  · rfl
  · exact absurd hd.1 (h d)
  · exact absurd hc.1 (k c)
  · rw [hc.one hd]
theorem CstIs.or {P Q R : Nat → Prop} {a b u : Int} (h : CstIs P a) (k : CstIs Q b) (hu : CstIs R u) (e : ∀ c, R c ↔ P c ∨ Q c) : u = min a b := by
  rcases hu with ⟨rfl, hu⟩ | ⟨c, hc, hcb, rfl⟩
  · rcases h with ⟨rfl, _⟩ | ⟨d, hd, _⟩
    · rcases k with ⟨rfl, _⟩ | ⟨d, hd, _⟩
      · rfl
      · exact absurd ((e d).2 (.inr hd.1)) (hu d)
    · exact absurd ((e d).2 (.inl hd.1)) (hu d)
  · have hP : ∀ d, P d → c ≤ d := fun d hd => hc.2 d ((e d).2 (.inl hd))
    have hQ : ∀ d, Q d → c ≤ d := fun d hd => hc.2 d ((e d).2 (.inr hd))
    have ha : (c : Int) ≤ a := by
      rcases h with ⟨rfl, _⟩ | ⟨d, hd, _, rfl⟩
      · omega
      · have := hP d hd.1; omega
    have hb : (c : Int) ≤ b := by
      rcases k with ⟨rfl, _⟩ | ⟨d, hd, _, rfl⟩
      · omega
      · have := hQ d hd.1; omega
    rcases (e c).1 hc.1 with g | g
    · rcases h with ⟨_, h⟩ | ⟨d, hd, _, rfl⟩
      · exact absurd g (h c)
      · have := hd.2 c g
        omega
    · rcases k with ⟨_, k⟩ | ⟨d, hd, _, rfl⟩
      · exact absurd g (k c)
      · have := hd.2 c g
        omega
theorem CstIs.le {P Q : Nat → Prop} {a b : Int} (h : CstIs P a) (k : CstIs Q b) (e : ∀ c, P c → Q c) : b ≤ a := by
  rcases h with ⟨rfl, h⟩ | ⟨c, hc, _, rfl⟩ <;> rcases k with ⟨rfl, k⟩ | ⟨d, hd, _, rfl⟩
  · omega
  · omega
  · exact absurd (e c hc.1) (k c)
  · have := hd.2 c (e c hc.1); omega
theorem cst_of {P : Nat → Prop} {n e : Int} (h : WghAns P n e) (hb : ∀ c, P c → ∃ d, d ≤ 100000000 ∧ P d) : e = 0 ∧ CstIs P n := by
  rcases h with ⟨h, rfl, rfl⟩ | ⟨c, hc, h⟩
  · exact ⟨rfl, .inl ⟨rfl, h⟩⟩
  · obtain ⟨d, hd, hp⟩ := hb c hc.1
    have := hc.2 d hp
    rcases h with ⟨h1, rfl, rfl⟩ | ⟨h1, rfl, rfl⟩
    · exact ⟨rfl, .inr ⟨c, hc, by omega, rfl⟩⟩
    · omega
/-- Small weights. -/
def CheapL (l : List St) : Prop := ∀ s ∈ l, (s.1 ≠ 1000000001 → s.1 ≤ 1000) ∧ ∀ a ∈ s.2, a.2.2.1 ≤ 1000
theorem right_ToIn {m : Mc} (h : faultM m = 0) : ToIn m.2 := fun q hq a ha => by
  have h1 := (right_parts h).2 _ (el_mem hq)
  simp only [stB, Bool.and_eq_true, List.all_eq_true] at h1
  have h2 := h1.2 _ ha
  simp only [arcB, inB, Bool.and_eq_true, decide_eq_true_eq] at h2
  exact ⟨a.2.2.2.toNat, by omega, by omega⟩
theorem edge_small {l : List St} {x y : List Int} {fr : Bool} (hto : ToIn l) (hc : CheapL l) (hx : x.length ≤ 12) (hy : y.length ≤ 12) (hn : l.length ≤ 60) :
    l.length * (x.length + 1) * (y.length + 1) ≤ 10140 ∧ ∀ k w j, Edge l x y fr k w j → j < l.length * (x.length + 1) * (y.length + 1) ∧ w ≤ 1000 := by
  have h1 : l.length * (x.length + 1) ≤ 60 * 13 := Nat.mul_le_mul hn (by omega)
  have h2 : l.length * (x.length + 1) * (y.length + 1) ≤ 60 * 13 * 13 := Nat.mul_le_mul h1 (by omega)
  refine ⟨by omega, ?_⟩
  rintro k w j ⟨q, i, j, a, t, i', j', hq, hi, hj, ha, ht, f1, f2, rfl, rfl, rfl⟩
  obtain ⟨t', e1, e2⟩ := hto q hq a ha
  have : t = t' := by omega
  subst this
  have h3 := (hc _ (el_mem hq)).2 a ha
  exact ⟨idx_lt e2 (fitN_le f1 hi) (fitF_le f2 hj), by omega⟩
theorem costs_bound {m : Mc} {x y : List Int} (hr : faultM m = 0) (hc : CheapL m.2) (hx : x.length ≤ 12) (hy : y.length ≤ 12) (c : Nat) (h : Costs m x y c) : ∃ d, d ≤ 100000000 ∧ Costs m x y d := by
  obtain ⟨hz, p, d, hw, hp, hf, rfl⟩ := h
  have h60 := (right_size (z := m.1) (l := m.2) hr).1
  obtain ⟨⟨hz1, hz2⟩, _⟩ := right_parts hr
  have hto := right_ToIn hr
  have hzl : m.1.toNat < m.2.length := by omega
  obtain ⟨hN, hE⟩ := edge_small (fr := false) hto hc hx hy h60
  obtain ⟨n, hn⟩ := (ends_way hzl hto).2 hw
  obtain ⟨n', d', hn', hd'⟩ := hn.short (idx_lt hzl (by omega) (by omega)) (fun k w j e => (hE k w j e).1)
  have h1 := hd'.cost (W := 1000) (fun k w j e => (hE k w j e).2)
  have h2 : n' * 1000 ≤ 10140 * 1000 := Nat.mul_le_mul_right _ (by omega)
  have h3 := (hc _ (el_mem hp)).1 hf
  exact ⟨d' + (el m.2 p).1.toNat, by omega, hz, p, d', (ends_way hzl hto).1 ⟨n', hd'⟩, hp, hf, rfl⟩
theorem costsR_bound {m : Mc} {x : List Int} (hr : faultM m = 0) (hc : CheapL m.2) (hx : x.length ≤ 12) (c : Nat) (h : CostsR m x c) : ∃ d, d ≤ 100000000 ∧ CostsR m x d := by
  obtain ⟨y, hz, p, d, hw, hp, hf, rfl⟩ := h
  have h60 := (right_size (z := m.1) (l := m.2) hr).1
  obtain ⟨⟨hz1, hz2⟩, _⟩ := right_parts hr
  have hto := right_ToIn hr
  have hzl : m.1.toNat < m.2.length := by omega
  obtain ⟨hN, hE⟩ := edge_small (y := []) (fr := true) hto hc hx (by simp) h60
  obtain ⟨n, hn⟩ := (ends_wayF (x := x) (q := p) (c := d) hzl hto).2 ⟨y, hw⟩
  obtain ⟨n', d', hn', hd'⟩ := hn.short (idx_lt hzl (by omega) (by omega)) (fun k w j e => (hE k w j e).1)
  have h1 := hd'.cost (W := 1000) (fun k w j e => (hE k w j e).2)
  have h2 : n' * 1000 ≤ 10140 * 1000 := Nat.mul_le_mul_right _ (by omega)
  have h3 := (hc _ (el_mem hp)).1 hf
  obtain ⟨y', hw'⟩ := (ends_wayF (x := x) (q := p) (c := d') hzl hto).1 ⟨n', hd'⟩
  exact ⟨d' + (el m.2 p).1.toNat, by omega, y', hz, p, d', hw', hp, hf, rfl⟩
/-- Words that were made. -/
def wdL (l : List Int) (k : Nat) : List Int := (l.take k).map (fun n => 1 + pkR n 2)
theorem wdL_len (l : List Int) (k : Nat) : (wdL l k).length ≤ k := by simp [wdL]; omega
theorem wrd_12 {l : List Int} (hl : l.length ≤ 12) (h : ∀ n ∈ l, 1 ≤ n ∧ n ≤ 1000) : wrdE l = 0 := wrd_ok (by omega) fun i hi => by
  have := h _ (el_mem hi)
  simp [inB]
  omega
theorem wdL_mem {l : List Int} {k : Nat} {n : Int} (h : n ∈ wdL l k) : n = 1 ∨ n = 2 := by
  unfold wdL at h
  rw [List.mem_map] at h
  obtain ⟨a, _, rfl⟩ := h
  have := pkR_bd a 2 (by omega)
  omega
theorem wdL_wrd {l : List Int} {k : Nat} (hk : k ≤ 12) : wrdE (wdL l k) = 0 := wrd_12 (by have := wdL_len l k; omega) fun n hn => by rcases wdL_mem hn with rfl | rfl <;> omega
theorem made_cheap (r : Int × List (Int × Bool × List Ar)) (states : Nat) (full : Bool) : CheapL (madeM r states full).2 := fun s hs => by
  simp only [madeM, statesM, List.mem_map] at hs
  obtain ⟨q, _, rfl⟩ := hs
  split
  · exact ⟨fun _ => by simp, fun a ha => absurd ha (by simp)⟩
  · refine ⟨fun h => ?_, fun a ha => ?_⟩
    · unfold stM at h ⊢
      simp only at h ⊢
      split
      · have := pkR_bd (el r.2 q).1 10 (by omega); omega
      · rename_i g; rw [if_neg g] at h; exact absurd rfl h
    · simp only [stM, List.mem_map] at ha
      obtain ⟨e, _, rfl⟩ := ha
      unfold arM
      have := pkR_bd e.2.2.1 10 (by omega)
      simp only
      omega
theorem cheap_sh {l : List St} {d : Int} (h : CheapL l) : CheapL (l.map (fun s => shS d s.1 [] s)) := fun s hs => by
  rw [List.mem_map] at hs
  obtain ⟨t, ht, rfl⟩ := hs
  refine ⟨(h t ht).1, fun a ha => ?_⟩
  simp only [shS, List.append_nil, List.mem_map] at ha
  obtain ⟨b, hb, rfl⟩ := ha
  exact (h t ht).2 b hb
theorem cheap_hop (z d x : Int) (hx : x ≤ 1000) : ∀ a ∈ hopA z d x, a.2.2.1 ≤ 1000 := fun a ha => by
  unfold hopA at ha
  split at ha
  · simp at ha
  · simp at ha
    subst ha
    exact hx
theorem cheap_append {l r : List St} (h : CheapL l) (k : CheapL r) : CheapL (l ++ r) := fun s hs => by
  rcases List.mem_append.1 hs with g | g
  · exact h s g
  · exact k s g
theorem cheap_cons {s : St} {l : List St} (hs : (s.1 ≠ 1000000001 → s.1 ≤ 1000) ∧ ∀ a ∈ s.2, a.2.2.1 ≤ 1000) (h : CheapL l) : CheapL (s :: l) := fun t ht => by
  rcases List.mem_cons.1 ht with rfl | g
  · exact hs
  · exact h t g
theorem uni_cheap {a b : Mc} (ha : CheapL a.2) (hb : CheapL b.2) : CheapL (uniM a b).2 := by
  refine cheap_cons ⟨fun h => absurd rfl h, fun e he => ?_⟩ (cheap_append (cheap_sh ha) (cheap_sh hb))
  rcases List.mem_append.1 he with g | g
  · exact cheap_hop _ _ _ (by omega) e g
  · exact cheap_hop _ _ _ (by omega) e g
theorem cheap_end {l : List St} {d z e : Int} (h : CheapL l) : CheapL (l.map (fun s => shS d 1000000001 (endA s.1 z e) s)) := fun s hs => by
  rw [List.mem_map] at hs
  obtain ⟨t, ht, rfl⟩ := hs
  refine ⟨fun g => absurd rfl g, fun a ha => ?_⟩
  simp only [shS] at ha
  rcases List.mem_append.1 ha with g | g
  · rw [List.mem_map] at g
    obtain ⟨b, hb, rfl⟩ := g
    exact (h t ht).2 b hb
  · unfold endA at g
    split at g
    · simp at g
    · rename_i hne
      exact cheap_hop _ _ _ ((h t ht).1 hne) a g
theorem cat_cheap {a b : Mc} (ha : CheapL a.2) (hb : CheapL b.2) : CheapL (catM a b).2 := cheap_append (cheap_end ha) (cheap_sh hb)
theorem sta_cheap {a : Mc} (ha : CheapL a.2) : CheapL (staM a).2 := cheap_cons ⟨fun _ => by simp, cheap_hop _ _ _ (by omega)⟩ (cheap_end ha)
theorem tu_cheap {k : Int} {a : Mc} (ha : CheapL a.2) : CheapL (tuM k a).2 := fun s hs => by
  simp only [tuM, List.mem_map] at hs
  obtain ⟨t, ht, rfl⟩ := hs
  refine ⟨(ha t ht).1, fun e he => ?_⟩
  simp only [tuS, List.mem_map] at he
  obtain ⟨b, hb, rfl⟩ := he
  have := (ha t ht).2 b hb
  unfold tuA
  simpa using this
theorem into_cheap {l : List St} {t : Nat} (h : CheapL l) : ∀ k, k ≤ l.length → ∀ a ∈ intoL l t k, a.2.2.1 ≤ 1000
  | 0, _, a, ha => by simp [intoL] at ha
  | k + 1, hk, a, ha => by
    simp only [intoL, List.mem_append] at ha
    rcases ha with g | g
    · exact into_cheap h k (by omega) a g
    · simp only [intoA, List.mem_map, List.mem_filter] at g
      obtain ⟨b, ⟨hb, _⟩, rfl⟩ := g
      exact (h _ (el_mem (by omega))).2 b hb
theorem first_cheap {l : List St} (h : CheapL l) : ∀ k, k ≤ l.length → ∀ a ∈ firstL l k, a.2.2.1 ≤ 1000
  | 0, _, a, ha => by simp [firstL] at ha
  | k + 1, hk, a, ha => by
    simp only [firstL, List.mem_append] at ha
    rcases ha with g | g
    · exact first_cheap h k (by omega) a g
    · split at g
      · simp at g
      · rename_i hne
        simp at g
        subst g
        exact (h _ (el_mem (by omega))).1 hne
theorem rev_cheap {m : Mc} (h : CheapL m.2) : CheapL (revM m).2 := by
  refine cheap_cons ⟨fun g => absurd rfl g, first_cheap h _ (Nat.le_refl _)⟩ fun s hs => ?_
  rw [List.mem_map] at hs
  obtain ⟨q, _, rfl⟩ := hs
  refine ⟨fun g => ?_, into_cheap h _ (Nat.le_refl _)⟩
  unfold revS at g ⊢
  simp only at g ⊢
  split
  · omega
  · rename_i e; rw [if_neg e] at g; exact absurd rfl g
theorem wrd_rev {l : List Int} (h : wrdE l = 0) : wrdE l.reverse = 0 := by
  obtain ⟨h1, h2⟩ := wrd_parts h
  refine wrd_12 (by simpa using h1) fun n hn => ?_
  rw [List.mem_reverse] at hn
  obtain ⟨i, hi, e⟩ := List.getElem_of_mem hn
  have := h2 i hi
  rw [el_get hi, e] at this
  exact this
end Go.Proofs.Ytnbiojjcebdljaa.Pl
