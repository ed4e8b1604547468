/- Composing: triples and hops; the filter lets just one way by (no program in sight). Composing: what Expand and Compose answer, as functions (no program in sight). Composing: the hops, arc by arc (no program in sight). Composing: hops numbered one by one (no program in sight). Composing: hops told one by one; one that is too dear is told by an error and left out (no program in sight). -/
import Derived.Test.YthcfkiinjcbajaaJ16a
namespace Go.Proofs.Ythcfkiinjcbajaa.Pl
set_option linter.unusedVariables false
set_option linter.unusedSimpArgs false
/-- A triple: a state of a, one of b, the filter's. -/
abbrev Tr : Type := Int × Int × Int
/-- A hop: In, Out, Weight, and the triple that it leads to. -/
abbrev Hp : Type := Int × Int × Int × Tr
def hopM (x y : Ar) : Hp := (x.1, y.2.1, x.2.2.1 + y.2.2.1, x.2.2.2, y.2.2.2, 0)
def hopL (x : Ar) (b : Int) : Hp := (x.1, 0, x.2.2.1, x.2.2.2, b, 1)
def hopR (y : Ar) (a : Int) : Hp := (0, y.2.1, y.2.2.1, a, y.2.2.2, 2)
/-- An arc of a and one of b meet. -/
def metB (x y : Ar) (f : Int) : Bool := x.2.1 == y.1 && (decide (0 < x.2.1) || f == 0)
def expX (r : List Ar) (b f : Int) (x : Ar) : List Hp := (r.filter (metB x · f)).map (hopM x) ++ (if x.2.1 = 0 ∧ f ≠ 2 then [hopL x b] else [])
/-- P16.2: the hops. -/
def expL (l r : List Ar) (t : Tr) : List Hp := l.flatMap (expX r t.2.1 t.2.2) ++ (if t.2.2 ≠ 1 then (r.filter (fun y => y.1 == 0)).map (hopR · t.1) else [])
theorem mem_expX {r : List Ar} {b f : Int} {x : Ar} {h : Hp} : h ∈ expX r b f x ↔ (∃ y ∈ r, metB x y f = true ∧ h = hopM x y) ∨ (x.2.1 = 0 ∧ f ≠ 2 ∧ h = hopL x b) := by
  unfold expX
  rw [List.mem_append, List.mem_map]
  constructor
  · rintro (⟨y, hy, rfl⟩ | k)
    · rw [List.mem_filter] at hy
      exact .inl ⟨y, hy.1, hy.2, rfl⟩
    · split at k
      · rename_i g
        rw [List.mem_singleton] at k
        exact .inr ⟨g.1, g.2, k⟩
      · cases k
  · rintro (⟨y, hy, hm, rfl⟩ | ⟨h1, h2, rfl⟩)
    · exact .inl ⟨y, List.mem_filter.2 ⟨hy, hm⟩, rfl⟩
    · right
      rw [if_pos ⟨h1, h2⟩]
      exact List.mem_singleton.2 rfl
theorem mem_expL {l r : List Ar} {t : Tr} {h : Hp} : h ∈ expL l r t ↔ (∃ x ∈ l, ∃ y ∈ r, metB x y t.2.2 = true ∧ h = hopM x y) ∨ (∃ x ∈ l, x.2.1 = 0 ∧ t.2.2 ≠ 2 ∧ h = hopL x t.2.1) ∨ (∃ y ∈ r, y.1 = 0 ∧ t.2.2 ≠ 1 ∧ h = hopR y t.1) := by
  unfold expL
  rw [List.mem_append, List.mem_flatMap]
  constructor
  · rintro (⟨x, hx, k⟩ | k)
    · rcases mem_expX.1 k with ⟨y, hy, hm, e⟩ | ⟨h1, h2, e⟩
      · exact .inl ⟨x, hx, y, hy, hm, e⟩
      · exact .inr (.inl ⟨x, hx, h1, h2, e⟩)
    · split at k
      · rename_i g
        obtain ⟨y, hy, rfl⟩ := List.mem_map.1 k
        rw [List.mem_filter] at hy
        exact .inr (.inr ⟨y, hy.1, by simpa using hy.2, g, rfl⟩)
      · cases k
  · rintro (⟨x, hx, y, hy, hm, e⟩ | ⟨x, hx, h1, h2, e⟩ | ⟨y, hy, h1, h2, e⟩)
    · exact .inl ⟨x, hx, mem_expX.2 (.inl ⟨y, hy, hm, e⟩)⟩
    · exact .inl ⟨x, hx, mem_expX.2 (.inr ⟨h1, h2, e⟩)⟩
    · right
      rw [if_pos h2]
      exact List.mem_map.2 ⟨y, List.mem_filter.2 ⟨hy, by simpa using h1⟩, e.symm⟩
/-- Along hops from both Starts with the filter at 0: to states A, B with the filter at f, reading u, writing v, for c. -/
inductive Hops (la lb : List St) (za zb : Nat) : List Int → List Int → Nat → Nat → Int → Nat → Prop
  | nil : Hops la lb za zb [] [] za zb 0 0
  | snoc {u v : List Int} {p q c : Nat} {f : Int} (h : Hops la lb za zb u v p q f c) {k : Hp} (hk : k ∈ expL (el la p).2 (el lb q).2 ((p : Int), (q : Int), f)) {s t : Nat} (hs : k.2.2.2.1 = (s : Int)) (ht : k.2.2.2.2.1 = (t : Int)) :
      Hops la lb za zb (u ++ lab k.1) (v ++ lab k.2.1) s t k.2.2.2.2.2 (c + k.2.2.1.toNat)
/-- Labels and weights are none below 0. -/
def PosA (l : List St) : Prop := ∀ q, ∀ a ∈ (el l q).2, 0 ≤ a.1 ∧ 0 ≤ a.2.1 ∧ 0 ≤ a.2.2.1
theorem lab_zero : lab 0 = [] := by simp [lab]
/-- Along hops: a way in each, by a word between. -/
theorem Hops.ways {la lb : List St} (pa : PosA la) (pb : PosA lb) {za zb : Nat} {u v : List Int} {p q c : Nat} {f : Int} (h : Hops la lb za zb u v p q f c) : ∃ y d e, Way la za u y p d ∧ Way lb zb y v q e ∧ c = d + e := by
  induction h with
  | nil => exact ⟨[], 0, 0, .nil, .nil, rfl⟩
  | @snoc u v p q c f h k hk s t hs ht ih =>
    obtain ⟨y, d, e, h1, h2, rfl⟩ := ih
    rcases mem_expL.1 hk with ⟨x, hx, z, hz, hm, rfl⟩ | ⟨x, hx, h0, _, rfl⟩ | ⟨z, hz, h0, _, rfl⟩
    · simp only [hopM] at hs ht ⊢
      have e1 : x.2.1 = z.1 := by
        simp only [metB, Bool.and_eq_true] at hm
        simpa using hm.1
      have w1 := h1.snoc hx hs
      have w2 := h2.snoc hz ht
      rw [← e1] at w2
      refine ⟨_, _, _, w1, w2, ?_⟩
      have := (pa p x hx).2.2
      have := (pb q z hz).2.2
      omega
    · simp only [hopL] at hs ht ⊢
      have w1 := h1.snoc hx hs
      rw [h0, lab_zero, List.append_nil] at w1
      rw [lab_zero, List.append_nil]
      have : q = t := by omega
      subst this
      exact ⟨_, _, _, w1, h2, by omega⟩
    · simp only [hopR] at hs ht ⊢
      have w2 := h2.snoc hz ht
      rw [h0, lab_zero, List.append_nil] at w2
      rw [lab_zero, List.append_nil]
      have : p = s := by omega
      subst this
      exact ⟨_, _, _, h1, w2, by omega⟩
/-! Ways with what is empty at their end counted: what a writes, what b reads. -/
inductive WayO (l : List St) (z : Nat) : List Int → List Int → Nat → Nat → Nat → Nat → Prop
  | nil : WayO l z [] [] z 0 0 0
  | emp {u v : List Int} {p c i n : Nat} (h : WayO l z u v p c i n) {a : Ar} (ha : a ∈ (el l p).2) {t : Nat} (ht : a.2.2.2 = (t : Int)) (h0 : a.2.1 = 0) : WayO l z (u ++ lab a.1) v t (c + a.2.2.1.toNat) (i + 1) (n + 1)
  | lab {u v : List Int} {p c i n : Nat} (h : WayO l z u v p c i n) {a : Ar} (ha : a ∈ (el l p).2) {t : Nat} (ht : a.2.2.2 = (t : Int)) (h0 : a.2.1 ≠ 0) : WayO l z (u ++ lab a.1) (v ++ [a.2.1]) t (c + a.2.2.1.toNat) 0 (n + 1)
inductive WayI (l : List St) (z : Nat) : List Int → List Int → Nat → Nat → Nat → Nat → Prop
  | nil : WayI l z [] [] z 0 0 0
  | emp {u v : List Int} {p c i n : Nat} (h : WayI l z u v p c i n) {a : Ar} (ha : a ∈ (el l p).2) {t : Nat} (ht : a.2.2.2 = (t : Int)) (h0 : a.1 = 0) : WayI l z u (v ++ lab a.2.1) t (c + a.2.2.1.toNat) (i + 1) (n + 1)
  | lab {u v : List Int} {p c i n : Nat} (h : WayI l z u v p c i n) {a : Ar} (ha : a ∈ (el l p).2) {t : Nat} (ht : a.2.2.2 = (t : Int)) (h0 : a.1 ≠ 0) : WayI l z (u ++ [a.1]) (v ++ lab a.2.1) t (c + a.2.2.1.toNat) 0 (n + 1)
theorem Way.outs {l : List St} {z : Nat} {u v : List Int} {p c : Nat} (h : Way l z u v p c) : ∃ i n, WayO l z u v p c i n := by
  induction h with
  | nil => exact ⟨0, 0, .nil⟩
  | @snoc u v p c h a ha t ht ih =>
    obtain ⟨i, n, k⟩ := ih
    by_cases g : a.2.1 = 0
    · rw [g, lab_zero, List.append_nil]
      exact ⟨_, _, k.emp ha ht g⟩
    · rw [show lab a.2.1 = [a.2.1] by simp [Pl.lab, g]]
      exact ⟨_, _, k.lab ha ht g⟩
theorem Way.ins {l : List St} {z : Nat} {u v : List Int} {p c : Nat} (h : Way l z u v p c) : ∃ i n, WayI l z u v p c i n := by
  induction h with
  | nil => exact ⟨0, 0, .nil⟩
  | @snoc u v p c h a ha t ht ih =>
    obtain ⟨i, n, k⟩ := ih
    by_cases g : a.1 = 0
    · rw [g, lab_zero, List.append_nil]
      exact ⟨_, _, k.emp ha ht g⟩
    · rw [show lab a.1 = [a.1] by simp [Pl.lab, g]]
      exact ⟨_, _, k.lab ha ht g⟩
/-- Where the filter stands behind i empty ones of a and j of b. -/
def fltF (i j : Nat) : Int := if i = j then 0 else if j < i then 1 else 2
theorem hops_of {la lb : List St} (pa : PosA la) (pb : PosA lb) {za zb : Nat} (N : Nat) : ∀ {u y v : List Int} {p q c d i j n k : Nat}, n + k ≤ N → WayO la za u y p c i n → WayI lb zb y v q d j k → Hops la lb za zb u v p q (fltF i j) (c + d) := by
  induction N with
  | zero =>
    intro u y v p q c d i j n k hN h1 h2
    cases h1 with
    | nil =>
      generalize hy : ([] : List Int) = Y at h2
      cases h2 with
      | nil => exact .nil
      | emp h2 => omega
      | lab h2 => omega
    | emp h1 => omega
    | lab h1 => omega
  | succ N ih =>
    intro u y v p q c d i j n k hN h1 h2
    have h1' := h1
    have h2' := h2
    rcases Nat.lt_trichotomy i j with g | g | g
    · -- the last of b alone
      cases h2 with
      | nil => omega
      | @emp _ v' q' d' j' k' h2 a ha t ht h0 =>
        have r := ih (by omega) h1 h2
        have hm : hopR a (p : Int) ∈ expL (el la p).2 (el lb q').2 ((p : Int), (q' : Int), fltF i j') := mem_expL.2 (.inr (.inr ⟨a, ha, h0, by
          simp only [fltF]
          split
          · omega
          · rw [if_neg (by omega)]; omega, rfl⟩))
        have := r.snoc hm (s := p) (t := q) rfl ht
        simp only [hopR, lab_zero, List.append_nil] at this
        rw [show fltF i (j' + 1) = 2 by simp only [fltF]; rw [if_neg (by omega), if_neg (by omega)], ← Nat.add_assoc]
        exact this
      | lab h2 => omega
    · subst g
      cases h1 with
      | nil =>
        generalize hy : ([] : List Int) = Y at h2
        cases h2 with
        | nil => exact .nil
        | lab h2 => simp at hy
      | @emp u' _ p' c' i' n' h1 a ha t ht h0 =>
        cases h2 with
        | @emp _ v' q' d' j' k' h2 b hb t2 ht2 h02 =>
          have r := ih (by omega) h1 h2
          have e0 : ∀ x, fltF x x = 0 := fun x => by simp [fltF]
          rw [e0] at r ⊢
          have hm : hopM a b ∈ expL (el la p').2 (el lb q').2 ((p' : Int), (q' : Int), 0) := mem_expL.2 (.inl ⟨a, ha, b, hb, by simp [metB, h0, h02], rfl⟩)
          have := r.snoc hm (s := p) (t := q) ht ht2
          simp only [hopM] at this
          have w1 := (pa _ a ha).2.2
          have w2 := (pb _ b hb).2.2
          rw [show c' + a.2.2.1.toNat + (d' + b.2.2.1.toNat) = c' + d' + (a.2.2.1 + b.2.2.1).toNat by omega]
          exact this
      | @lab u' y' p' c' i' n' h1 a ha t ht h0 =>
        generalize hy : y' ++ [a.2.1] = Y at h2
        cases h2 with
        | nil => simp at hy
        | @lab y2 v' q' d' j' k' h2 b hb t2 ht2 h02 =>
          obtain ⟨e1, e2⟩ := List.append_inj' hy rfl
          subst e1
          simp only [List.cons.injEq, and_true] at e2
          have r := ih (by omega) h1 h2
          have hm : hopM a b ∈ expL (el la p').2 (el lb q').2 ((p' : Int), (q' : Int), fltF i' j') := mem_expL.2 (.inl ⟨a, ha, b, hb, by
            have := (pa _ a ha).2.1
            simp only [metB, e2, Bool.and_eq_true, Bool.or_eq_true, decide_eq_true_eq]
            exact ⟨by simp, .inl (by omega)⟩, rfl⟩)
          have := r.snoc hm (s := p) (t := q) ht ht2
          simp only [hopM] at this
          have w1 := (pa _ a ha).2.2
          have w2 := (pb _ b hb).2.2
          rw [show c' + a.2.2.1.toNat + (d' + b.2.2.1.toNat) = c' + d' + (a.2.2.1 + b.2.2.1).toNat by omega, show fltF 0 0 = 0 by simp [fltF]]
          exact this
    · cases h1 with
      | nil => omega
      | @emp u' _ p' c' i' n' h1 a ha t ht h0 =>
        have r := ih (by omega) h1 h2
        have hm : hopL a (q : Int) ∈ expL (el la p').2 (el lb q).2 ((p' : Int), (q : Int), fltF i' j) := mem_expL.2 (.inr (.inl ⟨a, ha, h0, by
          simp only [fltF]
          split
          · omega
          · rw [if_pos (by omega)]; omega, rfl⟩))
        have := r.snoc hm (s := p) (t := q) ht rfl
        simp only [hopL, lab_zero, List.append_nil] at this
        rw [show fltF (i' + 1) j = 1 by simp only [fltF]; rw [if_neg (by omega), if_pos (by omega)], show c' + a.2.2.1.toNat + d = c' + d + a.2.2.1.toNat by omega]
        exact this
      | lab h1 => omega
/-- THE FILTER: along hops from both Starts one comes just where both machines come by a word between, for both costs. -/
theorem hops_iff {la lb : List St} (pa : PosA la) (pb : PosA lb) {za zb : Nat} {u v : List Int} {p q c : Nat} : (∃ f, Hops la lb za zb u v p q f c) ↔ ∃ y d e, Way la za u y p d ∧ Way lb zb y v q e ∧ c = d + e := by
  constructor
  · rintro ⟨f, h⟩
    exact h.ways pa pb
  · rintro ⟨y, d, e, h1, h2, rfl⟩
    obtain ⟨i, n, k1⟩ := h1.outs
    obtain ⟨j, m, k2⟩ := h2.ins
    exact ⟨_, hops_of pa pb _ (Nat.le_refl _) k1 k2⟩
end Go.Proofs.Ythcfkiinjcbajaa.Pl
namespace Go.Proofs.Ythcfkiinjcbajaa.Pl
set_option linter.unusedVariables false
set_option linter.unusedSimpArgs false
/-- There is such a triple. -/
def trB (a b : Mc) (t : Tr) : Bool := inB t.1 0 ((a.2.length : Int) - 1) && inB t.2.1 0 ((b.2.length : Int) - 1) && inB t.2.2 0 2
/-- P16.2: a triple's Final and hops. -/
def finTr (a b : Mc) (t : Tr) : Int := bothI (el a.2 t.1.toNat).1 (el b.2 t.2.1.toNat).1
def expT (a b : Mc) (t : Tr) : List Hp := expL (el a.2 t.1.toNat).2 (el b.2 t.2.1.toNat).2 t
def expO (a b : Mc) (t : Tr) : Bool := ((el a.2 t.1.toNat).1 != 1000000001 && (el b.2 t.2.1.toNat).1 != 1000000001 && decide (1000000000 < (el a.2 t.1.toNat).1 + (el b.2 t.2.1.toNat).1)) || (expT a b t).any (fun h => decide (1000000000 < h.2.2.1))
def expE (a b : Mc) (t : Tr) : Int := if faultM a ≠ 0 then faultM a else if faultM b ≠ 0 then faultM b else if trB a b t = false then 13 else if expO a b t = true then 4 else 0
def expF (a b : Mc) (t : Tr) : Int := if expE a b t = 0 then finTr a b t else 0
def expR (a b : Mc) (t : Tr) : List Hp := if expE a b t = 0 then expT a b t else []
/-- P16.3: triples, numbered. -/
def addQ (L : List Tr) (t : Tr) : List Tr := if t ∈ L then L else L ++ [t]
def arcTr (L : List Tr) (h : Hp) : Ar := (h.1, h.2.1, h.2.2.1, (L.idxOf h.2.2.2 : Int))
def cpsH : List Hp → List Tr → List Tr × List Ar
  | [], L => (L, [])
  | h :: hs, L => ((cpsH hs (addQ L h.2.2.2)).1, arcTr L h :: (cpsH hs (addQ L h.2.2.2)).2)
theorem cpsH_append (hs ks : List Hp) : ∀ L, cpsH (hs ++ ks) L = ((cpsH ks (cpsH hs L).1).1, (cpsH hs L).2 ++ (cpsH ks (cpsH hs L).1).2) := by
  induction hs with
  | nil => intro L; rfl
  | cons h hs ih => intro L; simp only [List.cons_append, cpsH, ih]
theorem addQ_ext (L : List Tr) (t : Tr) : ∃ E, addQ L t = L ++ E := by
  unfold addQ
  split
  · exact ⟨[], by simp⟩
  · exact ⟨[t], rfl⟩
theorem addQ_mem (L : List Tr) (t : Tr) : t ∈ addQ L t := by
  unfold addQ
  split
  · assumption
  · simp
theorem addQ_nodup {L : List Tr} (h : L.Nodup) (t : Tr) : (addQ L t).Nodup := by
  unfold addQ
  split
  · exact h
  · rename_i g
    rw [List.nodup_append]
    refine ⟨h, by simp, fun x hx y hy e => ?_⟩
    simp only [List.mem_singleton] at hy
    exact g (by rw [← hy, ← e]; exact hx)
theorem idx_ext {L E : List Tr} {t : Tr} (h : t ∈ L) : (L ++ E).idxOf t = L.idxOf t := by
  rw [List.idxOf_append, if_pos h]
theorem addQ_idx (L : List Tr) (t : Tr) : (addQ L t).idxOf t = L.idxOf t := by
  unfold addQ
  split
  · rfl
  · rename_i g
    rw [List.idxOf_append, if_neg g, List.idxOf_eq_length g]
    simp
theorem cpsH_facts (hs : List Hp) : ∀ L : List Tr, L.Nodup → (∃ E, (cpsH hs L).1 = L ++ E) ∧ (cpsH hs L).1.Nodup ∧ (∀ h ∈ hs, h.2.2.2 ∈ (cpsH hs L).1) ∧ (cpsH hs L).2 = hs.map (arcTr (cpsH hs L).1) := by
  induction hs with
  | nil => intro L h; exact ⟨⟨[], by simp [cpsH]⟩, h, fun h hh => (by cases hh), rfl⟩
  | cons h hs ih =>
    intro L hL
    obtain ⟨⟨E, e1⟩, h2, h3, h4⟩ := ih _ (addQ_nodup hL h.2.2.2)
    obtain ⟨D, e2⟩ := addQ_ext L h.2.2.2
    have hin : h.2.2.2 ∈ (cpsH hs (addQ L h.2.2.2)).1 := by
      rw [e1]
      exact List.mem_append_left _ (addQ_mem _ _)
    refine ⟨⟨D ++ E, by simp only [cpsH]; rw [e1, e2, List.append_assoc]⟩, h2, fun k hk => ?_, ?_⟩
    · rcases List.mem_cons.1 hk with rfl | hk
      · exact hin
      · exact h3 k hk
    · simp only [cpsH, List.map_cons]
      rw [h4]
      congr 1
      simp only [arcTr]
      rw [e1, idx_ext (addQ_mem _ _), addQ_idx]
def cpsS (a b : Mc) : Nat → Nat → List Tr → List St → Nat → Mc × Int
  | 0, _, _, _, _ => ((0, []), 5)
  | k + 1, q, L, S, n =>
    if q < L.length then
      if expE a b (el L q) ≠ 0 then ((0, []), expE a b (el L q))
      else if 400 < n + (expT a b (el L q)).length ∨ 60 < (cpsH (expT a b (el L q)) L).1.length then ((0, []), 5)
      else cpsS a b k (q + 1) (cpsH (expT a b (el L q)) L).1 (S ++ [(finTr a b (el L q), (cpsH (expT a b (el L q)) L).2)]) (n + (expT a b (el L q)).length)
    else ((0, S), 0)
/-- What Compose answers. -/
def cpsA (a b : Mc) : Mc × Int := if faultM a ≠ 0 then ((0, []), faultM a) else if faultM b ≠ 0 then ((0, []), faultM b) else if a.1 < 0 ∨ b.1 < 0 then ((-1, []), 0) else cpsS a b 61 0 [(a.1, b.1, 0)] [] 0
/-- So far: the first q of the triples L are states of S. -/
structure CmpI (a b : Mc) (q : Nat) (L : List Tr) (S : List St) : Prop where
  nodup : L.Nodup
  le : q ≤ L.length
  len : S.length = q
  start : ∃ E, L = (a.1, b.1, 0) :: E
  right : ∀ i, i < q → expE a b (el L i) = 0
  shut : ∀ i, i < q → ∀ h ∈ expT a b (el L i), h.2.2.2 ∈ L
  sts : ∀ i, i < q → el S i = (finTr a b (el L i), (expT a b (el L i)).map (arcTr L))
theorem el_appendL {α : Type} [Inhabited α] {l k : List α} {i : Nat} (h : i < l.length) : el (l ++ k) i = el l i := by
  simp [el, List.getElem?_append_left h, h]
theorem el_appendE {α : Type} [Inhabited α] {l : List α} {x : α} : el (l ++ [x]) l.length = x := by
  simp [el]
theorem CmpI.step {a b : Mc} {q : Nat} {L : List Tr} {S : List St} (h : CmpI a b q L S) (hq : q < L.length) (he : expE a b (el L q) = 0) :
    CmpI a b (q + 1) (cpsH (expT a b (el L q)) L).1 (S ++ [(finTr a b (el L q), (cpsH (expT a b (el L q)) L).2)]) := by
  obtain ⟨⟨E, e1⟩, h2, h3, h4⟩ := cpsH_facts (expT a b (el L q)) L h.nodup
  rw [h4]
  generalize (cpsH (expT a b (el L q)) L).1 = L' at *
  subst e1
  have hel : ∀ i, i < L.length → el (L ++ E) i = el L i := fun i hi => el_appendL hi
  refine ⟨h2, by simp; omega, by simp [h.len], ?_, fun i hi => ?_, fun i hi k hk => ?_, fun i hi => ?_⟩
  · obtain ⟨D, e⟩ := h.start
    exact ⟨D ++ E, by rw [e]; rfl⟩
  · rw [hel i (by omega)]
    rcases Nat.lt_succ_iff_lt_or_eq.1 hi with g | rfl
    · exact h.right i g
    · exact he
  · rw [hel i (by omega)] at hk
    rcases Nat.lt_succ_iff_lt_or_eq.1 hi with g | rfl
    · exact List.mem_append_left _ (h.shut i g k hk)
    · exact h3 k hk
  · rw [hel i (by omega)]
    rcases Nat.lt_succ_iff_lt_or_eq.1 hi with g | rfl
    · rw [el_appendL (by rw [h.len]; exact g), h.sts i g]
      congr 1
      refine List.map_congr_left fun k hk => ?_
      simp only [arcTr]
      rw [idx_ext (h.shut i g k hk)]
    · have := h.len
      subst this
      rw [el_appendE]
theorem cpsS_done {a b : Mc} : ∀ (k q : Nat) (L : List Tr) (S : List St) (n : Nat) (x : Mc), CmpI a b q L S → cpsS a b k q L S n = (x, 0) → x.1 = 0 ∧ ∃ L', CmpI a b L'.length L' x.2 := by
  intro k
  induction k with
  | zero => intro q L S n x h e; simp only [cpsS, Prod.mk.injEq] at e; exact absurd e.2 (by decide)
  | succ k ih =>
    intro q L S n x h e
    simp only [cpsS] at e
    split at e
    · rename_i hq
      split at e
      · rename_i he
        simp only [Prod.mk.injEq] at e
        exact absurd e.2 he
      · rename_i he
        split at e
        · simp only [Prod.mk.injEq] at e; exact absurd e.2 (by decide)
        · exact ih _ _ _ _ _ (h.step hq (by simpa using he)) e
    · rename_i hq
      simp only [Prod.mk.injEq] at e
      obtain ⟨rfl, _⟩ := e
      have : q = L.length := by have := h.le; omega
      subst this
      exact ⟨rfl, L, h⟩
theorem CmpI.init (a b : Mc) : CmpI a b 0 [(a.1, b.1, 0)] [] := ⟨by simp, by simp, rfl, ⟨[], rfl⟩, fun i hi => by omega, fun i hi => by omega, fun i hi => by omega⟩
/-- Composed: right machines with Starts. -/
theorem cpsA_done {a b x : Mc} (ha : faultM a = 0) (hb : faultM b = 0) (h1 : 0 ≤ a.1) (h2 : 0 ≤ b.1) (h : cpsA a b = (x, 0)) : x.1 = 0 ∧ ∃ L, CmpI a b L.length L x.2 := by
  unfold cpsA at h
  rw [if_neg (by simpa using ha), if_neg (by simpa using hb), if_neg (by omega)] at h
  exact cpsS_done _ _ _ _ _ _ (CmpI.init a b) h
end Go.Proofs.Ythcfkiinjcbajaa.Pl
namespace Go.Proofs.Ythcfkiinjcbajaa.Pl
set_option linter.unusedVariables false
set_option linter.unusedSimpArgs false
theorem flat_takeX {α β : Type} [Inhabited α] {l : List α} {i : Nat} (h : i < l.length) (f : α → List β) : (l.take (i + 1)).flatMap f = (l.take i).flatMap f ++ f (el l i) := by
  rw [take_el h, List.flatMap_append]
  simp
theorem filter_takeX {α : Type} [Inhabited α] {r : List α} {j : Nat} (h : j < r.length) (p : α → Bool) : (r.take (j + 1)).filter p = (r.take j).filter p ++ (if p (el r j) = true then [el r j] else []) := by
  rw [take_el h, List.filter_append]
  congr 1
  by_cases g : p (el r j) = true
  · rw [if_pos g, List.filter_cons_of_pos g]; rfl
  · rw [if_neg g, List.filter_cons_of_neg g]; rfl
/-- The hops of an arc of a with the first j arcs of b. -/
def metL (x : Ar) (r : List Ar) (f : Int) (j : Nat) : List Hp := ((r.take j).filter (metB x · f)).map (hopM x)
theorem metL_zero (x : Ar) (r : List Ar) (f : Int) : metL x r f 0 = [] := by simp [metL]
theorem metL_succ {x : Ar} {r : List Ar} {f : Int} {j : Nat} (h : j < r.length) : metL x r f (j + 1) = metL x r f j ++ (if metB x (el r j) f = true then [hopM x (el r j)] else []) := by
  unfold metL
  rw [filter_takeX h, List.map_append]
  congr 1
  split <;> simp
theorem metL_len (x : Ar) (r : List Ar) (f : Int) (j : Nat) : (metL x r f j).length ≤ r.length := by
  unfold metL
  rw [List.length_map]
  refine Nat.le_trans (List.length_filter_le _ _) ?_
  rw [List.length_take]
  omega
theorem expX_met (r : List Ar) (b f : Int) (x : Ar) : expX r b f x = metL x r f r.length ++ (if x.2.1 = 0 ∧ f ≠ 2 then [hopL x b] else []) := by
  unfold expX metL
  rw [List.take_length]
theorem expX_len (r : List Ar) (b f : Int) (x : Ar) : (expX r b f x).length ≤ r.length + 1 := by
  rw [expX_met, List.length_append]
  have := metL_len x r f r.length
  split <;> simp <;> omega
/-- The hops of the first i arcs of a. -/
def preL (l r : List Ar) (b f : Int) (i : Nat) : List Hp := (l.take i).flatMap (expX r b f)
theorem preL_zero (l r : List Ar) (b f : Int) : preL l r b f 0 = [] := by simp [preL]
theorem preL_succ {l r : List Ar} {b f : Int} {i : Nat} (h : i < l.length) : preL l r b f (i + 1) = preL l r b f i ++ expX r b f (el l i) := flat_takeX h _
theorem preL_len {l r : List Ar} (b f : Int) : ∀ i, i ≤ l.length → (preL l r b f i).length ≤ i * (r.length + 1) := by
  intro i
  induction i with
  | zero => intro _; simp [preL]
  | succ i ih =>
    intro hi
    rw [preL_succ (by omega), List.length_append, Nat.add_mul, Nat.one_mul]
    have h1 := ih (by omega)
    have h2 := expX_len r b f (el l i)
    omega
theorem preL_bound {l r : List Ar} {b f : Int} {i : Nat} (hi : i ≤ l.length) (hl : l.length ≤ 400) (hr : r.length ≤ 400) : (preL l r b f i).length ≤ 160400 := by
  have h1 := preL_len (l := l) (r := r) b f i hi
  have h2 : i * (r.length + 1) ≤ 400 * 401 := Nat.mul_le_mul (by omega) (by omega)
  omega
/-- The hops of the first j arcs of b alone. -/
def aloL (r : List Ar) (a f : Int) (j : Nat) : List Hp := ((r.take j).filter (fun y => y.1 == 0 && f != 1)).map (hopR · a)
theorem aloL_zero (r : List Ar) (a f : Int) : aloL r a f 0 = [] := by simp [aloL]
theorem aloL_succ {r : List Ar} {a f : Int} {j : Nat} (h : j < r.length) : aloL r a f (j + 1) = aloL r a f j ++ (if (el r j).1 = 0 ∧ f ≠ 1 then [hopR (el r j) a] else []) := by
  unfold aloL
  rw [filter_takeX h, List.map_append]
  congr 1
  by_cases g : (el r j).1 = 0 ∧ f ≠ 1
  · rw [if_pos g, if_pos (by simp [g.1, g.2])]; rfl
  · rw [if_neg g, if_neg (by simp; intro h1; simp only [not_and, Decidable.not_not] at g; exact g h1)]; rfl
theorem aloL_len (r : List Ar) (a f : Int) (j : Nat) : (aloL r a f j).length ≤ r.length := by
  unfold aloL
  rw [List.length_map]
  refine Nat.le_trans (List.length_filter_le _ _) ?_
  rw [List.length_take]
  omega
theorem expL_pre (l r : List Ar) (t : Tr) : expL l r t = preL l r t.2.1 t.2.2 l.length ++ aloL r t.1 t.2.2 r.length := by
  unfold expL preL aloL
  rw [List.take_length, List.take_length]
  congr 1
  by_cases g : t.2.2 = 1
  · rw [if_neg (fun h => h g)]
    simp [g]
  · rw [if_pos g]
    congr 1
    refine List.filter_congr fun y _ => ?_
    simp [g]
/-- Weights of hops. -/
theorem expL_small {l r : List Ar} {t : Tr} (hl : ∀ x ∈ l, 0 ≤ x.2.2.1 ∧ x.2.2.1 ≤ 1000000000) (hr : ∀ y ∈ r, 0 ≤ y.2.2.1 ∧ y.2.2.1 ≤ 1000000000) : ∀ h ∈ expL l r t, 0 ≤ h.2.2.1 ∧ h.2.2.1 ≤ 2000000000 := by
  intro h hh
  rcases mem_expL.1 hh with ⟨x, hx, y, hy, _, rfl⟩ | ⟨x, hx, _, _, rfl⟩ | ⟨y, hy, _, _, rfl⟩
  · have := hl x hx; have := hr y hy
    simp only [hopM]; omega
  · have := hl x hx
    simp only [hopL]; omega
  · have := hr y hy
    simp only [hopR]; omega
/-- One of them is too dear. -/
def ovH (hs : List Hp) : Bool := hs.any (fun h => decide (1000000000 < h.2.2.1))
theorem ovH_nil : ovH [] = false := rfl
theorem ovH_mem {hs : List Hp} {k : Nat} (h : k < hs.length) (ho : 1000000000 < (el hs k).2.2.1) : ovH hs = true := List.any_eq_true.2 ⟨el hs k, el_mem h, by simpa using ho⟩
/-- None of the first i is too dear. -/
theorem ovH_take {hs : List Hp} {i : Nat} (h : i < hs.length) (hp : ovH (hs.take i) = false) (hi : ¬ 1000000000 < (el hs i).2.2.1) : ovH (hs.take (i + 1)) = false := by
  unfold ovH at hp ⊢
  rw [take_el h, List.any_append, hp]
  simp
  omega
end Go.Proofs.Ythcfkiinjcbajaa.Pl
namespace Go.Proofs.Ythcfkiinjcbajaa.Pl
set_option linter.unusedVariables false
set_option linter.unusedSimpArgs false
theorem cpsH_ext (hs : List Hp) : ∀ L : List Tr, ∃ E, (cpsH hs L).1 = L ++ E := by
  induction hs with
  | nil => intro L; exact ⟨[], by simp [cpsH]⟩
  | cons h hs ih =>
    intro L
    obtain ⟨E, e1⟩ := ih (addQ L h.2.2.2)
    obtain ⟨D, e2⟩ := addQ_ext L h.2.2.2
    exact ⟨D ++ E, by simp only [cpsH]; rw [e1, e2, List.append_assoc]⟩
/-- The triples, the arcs behind the first i hops. -/
def cpL (hs : List Hp) (L : List Tr) (i : Nat) : List Tr := (cpsH (hs.take i) L).1
def cpA (hs : List Hp) (L : List Tr) (i : Nat) : List Ar := (cpsH (hs.take i) L).2
theorem cpL_zero (hs : List Hp) (L : List Tr) : cpL hs L 0 = L := by simp [cpL, cpsH]
theorem cpA_zero (hs : List Hp) (L : List Tr) : cpA hs L 0 = [] := by simp [cpA, cpsH]
theorem cpL_succ {hs : List Hp} {L : List Tr} {i : Nat} (h : i < hs.length) : cpL hs L (i + 1) = addQ (cpL hs L i) (el hs i).2.2.2 := by
  unfold cpL
  rw [take_el h, cpsH_append]
  simp [cpsH]
theorem cpA_succ {hs : List Hp} {L : List Tr} {i : Nat} (h : i < hs.length) : cpA hs L (i + 1) = cpA hs L i ++ [arcTr (cpL hs L i) (el hs i)] := by
  unfold cpL cpA
  rw [take_el h, cpsH_append]
  simp [cpsH]
theorem cpL_all (hs : List Hp) (L : List Tr) : cpL hs L hs.length = (cpsH hs L).1 := by unfold cpL; rw [List.take_length]
theorem cpA_all (hs : List Hp) (L : List Tr) : cpA hs L hs.length = (cpsH hs L).2 := by unfold cpA; rw [List.take_length]
theorem cpL_le (hs : List Hp) (L : List Tr) (i : Nat) : (cpL hs L i).length ≤ (cpsH hs L).1.length := by
  unfold cpL
  conv => rhs; rw [← List.take_append_drop i hs, cpsH_append]
  obtain ⟨E, e⟩ := cpsH_ext (hs.drop i) (cpsH (hs.take i) L).1
  simp only
  rw [e, List.length_append]
  omega
theorem cpL_nodup {hs : List Hp} {L : List Tr} (h : L.Nodup) (i : Nat) : (cpL hs L i).Nodup := (cpsH_facts (hs.take i) L h).2.1
theorem cpA_len {hs : List Hp} {L : List Tr} : ∀ {i : Nat}, i ≤ hs.length → (cpA hs L i).length = i := by
  intro i
  induction i with
  | zero => intro _; rw [cpA_zero]; rfl
  | succ i ih => intro hi; rw [cpA_succ (by omega), List.length_append, ih (by omega)]; rfl
theorem addQ_len (L : List Tr) (t : Tr) : (addQ L t).length ≤ L.length + 1 := by
  unfold addQ
  split
  · omega
  · simp
/-- Where a triple was found among the first k. -/
def fndI (L : List Tr) (t : Tr) (k : Nat) : Int := if t ∈ L.take k then (L.idxOf t : Int) else -1
theorem fndI_zero (L : List Tr) (t : Tr) : fndI L t 0 = -1 := by simp [fndI]
theorem idx_el {L : List Tr} (hn : L.Nodup) {k : Nat} (h : k < L.length) : L.idxOf (el L k) = k := by
  induction L generalizing k with
  | nil => simp at h
  | cons x L ih =>
    rw [List.nodup_cons] at hn
    cases k with
    | zero => rw [el_zero]; simp
    | succ k =>
      have hk : k < L.length := by simpa using h
      have hne : ¬ x = el L k := fun e => hn.1 (by rw [e]; exact el_mem hk)
      rw [el_succ, List.idxOf_cons]
      have hb : (x == el L k) = false := by simpa using hne
      rw [hb, ih hn.2 hk]
      rfl
theorem fndI_yes {L : List Tr} {t : Tr} (hn : L.Nodup) {k : Nat} (h : k < L.length) (e : el L k = t) : fndI L t (k + 1) = (k : Int) := by
  subst e
  unfold fndI
  rw [if_pos (by rw [take_el h]; simp), idx_el hn h]
theorem fndI_no {L : List Tr} {t : Tr} {k : Nat} (h : k < L.length) (e : ¬ el L k = t) : fndI L t (k + 1) = fndI L t k := by
  unfold fndI
  have : (t ∈ L.take (k + 1)) ↔ t ∈ L.take k := by
    rw [take_el h, List.mem_append, List.mem_singleton]
    constructor
    · rintro (g | g)
      · exact g
      · exact absurd g.symm e
    · exact .inl
  by_cases g : t ∈ L.take k
  · rw [if_pos g, if_pos (this.2 g)]
  · rw [if_neg g, if_neg (fun k => g (this.1 k))]
theorem fndI_all (L : List Tr) (t : Tr) : fndI L t L.length = if t ∈ L then (L.idxOf t : Int) else -1 := by unfold fndI; rw [List.take_length]
theorem fndI_rng (L : List Tr) (t : Tr) (k : Nat) : -1 ≤ fndI L t k ∧ fndI L t k ≤ (L.length : Int) := by
  unfold fndI
  split
  · have : L.idxOf t ≤ L.length := List.idxOf_le_length
    omega
  · omega
theorem arcTr_in {L : List Tr} {h : Hp} : arcTr L h = (h.1, h.2.1, h.2.2.1, (L.idxOf h.2.2.2 : Int)) := rfl
theorem addQ_old {L : List Tr} {t : Tr} (h : t ∈ L) : addQ L t = L := if_pos h
theorem addQ_new {L : List Tr} {t : Tr} (h : t ∉ L) : addQ L t = L ++ [t] := if_neg h
theorem idx_new {L : List Tr} {t : Tr} (h : t ∉ L) : L.idxOf t = L.length := List.idxOf_eq_length h
section
variable {a b : Mc} {k q : Nat} {L : List Tr} {S : List St} {n : Nat}
theorem cps_end (h : ¬ q < L.length) : cpsS a b (k + 1) q L S n = ((0, S), 0) := by simp only [cpsS]; rw [if_neg h]
theorem cps_err (h : q < L.length) (he : expE a b (el L q) ≠ 0) : cpsS a b (k + 1) q L S n = ((0, []), expE a b (el L q)) := by simp only [cpsS]; rw [if_pos h, if_pos he]
theorem cps_full (h : q < L.length) (he : expE a b (el L q) = 0) (hf : 400 < n + (expT a b (el L q)).length ∨ 60 < (cpsH (expT a b (el L q)) L).1.length) : cpsS a b (k + 1) q L S n = ((0, []), 5) := by
  simp only [cpsS]; rw [if_pos h, if_neg (fun g => g he), if_pos hf]
theorem cps_go (h : q < L.length) (he : expE a b (el L q) = 0) (hf : ¬ (400 < n + (expT a b (el L q)).length ∨ 60 < (cpsH (expT a b (el L q)) L).1.length)) : cpsS a b (k + 1) q L S n = cpsS a b k (q + 1) (cpsH (expT a b (el L q)) L).1 (S ++ [(finTr a b (el L q), (cpsH (expT a b (el L q)) L).2)]) (n + (expT a b (el L q)).length) := by
  conv => lhs; simp only [cpsS]
  rw [if_pos h, if_neg (fun g => g he), if_neg hf]
end
theorem expT_len {a b : Mc} (fa : faultM a = 0) (fb : faultM b = 0) (t : Tr) : (expT a b t).length ≤ 200000 := by
  have h : ∀ m : Mc, faultM m = 0 → ∀ q, (el m.2 q).2.length ≤ 400 := fun m hm q => by
    by_cases hq : q < m.2.length
    · have h1 := arcN_take hq
      have h2 : arcN (m.2.take (q + 1)) ≤ arcN m.2 := by
        conv => rhs; rw [← List.take_append_drop (q + 1) m.2, arcN_append]
        omega
      have h3 := (right_size (z := m.1) (l := m.2) hm).2
      omega
    · have : el m.2 q = default := by simp [el, List.getElem?_eq_none (Nat.le_of_not_lt hq)]
      rw [this]
      exact Nat.zero_le _
  unfold expT
  rw [expL_pre, List.length_append]
  have h1 := preL_bound (l := (el a.2 t.1.toNat).2) (r := (el b.2 t.2.1.toNat).2) (b := t.2.1) (f := t.2.2) (Nat.le_refl _) (h a fa _) (h b fb _)
  have h2 := aloL_len (el b.2 t.2.1.toNat).2 t.1 t.2.2 (el b.2 t.2.1.toNat).2.length
  have h3 := h b fb t.2.1.toNat
  omega
/-- So far; what is still to come is what Compose answers. -/
structure CpsI (a b : Mc) (q : Nat) (L : List Tr) (S : List St) (n : Nat) : Prop where
  nodup : L.Nodup
  le : q ≤ L.length
  l60 : L.length ≤ 60
  n4 : n ≤ 400
  len : S.length = q
  ans : cpsA a b = cpsS a b (61 - q) q L S n
theorem CpsI.init {a b : Mc} (fa : faultM a = 0) (fb : faultM b = 0) (ha : 0 ≤ a.1) (hb : 0 ≤ b.1) : CpsI a b 0 [(a.1, b.1, 0)] [] 0 :=
  ⟨by simp, by simp, by simp, by omega, rfl, by unfold cpsA; rw [if_neg (fun h => h fa), if_neg (fun h => h fb), if_neg (by omega)]⟩
theorem CpsI.stop {a b : Mc} {q : Nat} {L : List Tr} {S : List St} {n : Nat} (h : CpsI a b q L S n) (hq : ¬ q < L.length) : cpsA a b = ((0, S), 0) := by
  have h1 := h.le
  have h2 := h.l60
  rw [h.ans, show 61 - q = (60 - q) + 1 by omega, cps_end hq]
theorem CpsI.err {a b : Mc} {q : Nat} {L : List Tr} {S : List St} {n : Nat} (h : CpsI a b q L S n) (hq : q < L.length) (he : expE a b (el L q) ≠ 0) : cpsA a b = ((0, []), expE a b (el L q)) := by
  have h2 := h.l60
  rw [h.ans, show 61 - q = (60 - q) + 1 by omega, cps_err hq he]
theorem CpsI.full {a b : Mc} {q : Nat} {L : List Tr} {S : List St} {n : Nat} (h : CpsI a b q L S n) (hq : q < L.length) (he : expE a b (el L q) = 0) {i : Nat} (hi : i < (expT a b (el L q)).length) (hf : 400 < n + (i + 1) ∨ 60 < (cpL (expT a b (el L q)) L (i + 1)).length) : cpsA a b = ((0, []), 5) := by
  have h2 := h.l60
  have h3 := cpL_le (expT a b (el L q)) L (i + 1)
  rw [h.ans, show 61 - q = (60 - q) + 1 by omega, cps_full hq he (by omega)]
theorem CpsI.next {a b : Mc} {q : Nat} {L : List Tr} {S : List St} {n : Nat} (h : CpsI a b q L S n) (hq : q < L.length) (he : expE a b (el L q) = 0) (h4 : n + (expT a b (el L q)).length ≤ 400) (h6 : (cpL (expT a b (el L q)) L (expT a b (el L q)).length).length ≤ 60) :
    CpsI a b (q + 1) (cpL (expT a b (el L q)) L (expT a b (el L q)).length) (S ++ [(finTr a b (el L q), cpA (expT a b (el L q)) L (expT a b (el L q)).length)]) (n + (expT a b (el L q)).length) := by
  have h2 := h.l60
  have h5 := cpL_le (expT a b (el L q)) L 0
  rw [cpL_zero] at h5
  rw [cpL_all] at h6
  rw [cpL_all, cpA_all]
  refine ⟨(cpsH_facts _ L h.nodup).2.1, by omega, h6, h4, by simp [h.len], ?_⟩
  rw [h.ans, show 61 - q = (60 - q) + 1 by omega, cps_go hq he (by omega), show 61 - (q + 1) = 60 - q by omega]
end Go.Proofs.Ythcfkiinjcbajaa.Pl
namespace Go.Proofs.Ythcfkiinjcbajaa.Pl
set_option linter.unusedVariables false
set_option linter.unusedSimpArgs false
def telS (s : Int × List Hp) (h : Hp) : Int × List Hp := if 1000000000 < h.2.2.1 then (4, s.2) else (s.1, s.2 ++ [h])
/-- The error and the hops, when these were told. -/
def telA (T : List Hp) : Int × List Hp := T.foldl telS (0, [])
def telE (T : List Hp) : Int := (telA T).1
def telH (T : List Hp) : List Hp := (telA T).2
theorem telA_snoc (T : List Hp) (h : Hp) : telA (T ++ [h]) = telS (telA T) h := by simp [telA]
theorem telE_over {T : List Hp} {h : Hp} (g : 1000000000 < h.2.2.1) : telE (T ++ [h]) = 4 := by unfold telE; rw [telA_snoc]; unfold telS; rw [if_pos g]
theorem telH_over {T : List Hp} {h : Hp} (g : 1000000000 < h.2.2.1) : telH (T ++ [h]) = telH T := by unfold telH; rw [telA_snoc]; unfold telS; rw [if_pos g]
theorem telE_fine {T : List Hp} {h : Hp} (g : ¬ 1000000000 < h.2.2.1) : telE (T ++ [h]) = telE T := by unfold telE; rw [telA_snoc]; unfold telS; rw [if_neg g]
theorem telH_fine {T : List Hp} {h : Hp} (g : ¬ 1000000000 < h.2.2.1) : telH (T ++ [h]) = telH T ++ [h] := by unfold telH; rw [telA_snoc]; unfold telS; rw [if_neg g]
theorem telH_len (T : List Hp) : (telH T).length ≤ T.length := by
  unfold telH telA
  have : ∀ (T : List Hp) (s : Int × List Hp), (T.foldl telS s).2.length ≤ s.2.length + T.length := by
    intro T
    induction T with
    | nil => intro s; simp
    | cons h T ih =>
      intro s
      rw [List.foldl_cons]
      refine Nat.le_trans (ih _) ?_
      unfold telS
      split
      · simp
      · simp; omega
  have := this T (0, [])
  simpa using this
theorem tel_fold (T : List Hp) : ∀ s : Int × List Hp, T.foldl telS s = (if ovH T = true then 4 else s.1, s.2 ++ T.filter (fun h => !decide (1000000000 < h.2.2.1))) := by
  induction T with
  | nil => intro s; simp [ovH]
  | cons h T ih =>
    intro s
    rw [List.foldl_cons, ih]
    by_cases g : 1000000000 < h.2.2.1
    · have : ovH (h :: T) = true := by simp [ovH, g]
      rw [this]
      have e : telS s h = (4, s.2) := by unfold telS; rw [if_pos g]
      rw [e]
      simp [g]
    · have : ovH (h :: T) = ovH T := by simp [ovH, g]
      rw [this]
      have e : telS s h = (s.1, s.2 ++ [h]) := by unfold telS; rw [if_neg g]
      rw [e]
      simp [g]
theorem telE_ov {T : List Hp} (h : ovH T = true) : telE T = 4 := by unfold telE telA; rw [tel_fold, if_pos h]
theorem telE_no {T : List Hp} (h : ovH T = false) : telE T = 0 := by unfold telE telA; rw [tel_fold, h]; rfl
theorem telH_no {T : List Hp} (h : ovH T = false) : telH T = T := by
  unfold telH telA
  rw [tel_fold]
  simp only [List.nil_append]
  rw [List.filter_eq_self]
  intro x hx
  unfold ovH at h
  rw [List.any_eq_false] at h
  have := h x hx
  simpa using this
end Go.Proofs.Ythcfkiinjcbajaa.Pl
