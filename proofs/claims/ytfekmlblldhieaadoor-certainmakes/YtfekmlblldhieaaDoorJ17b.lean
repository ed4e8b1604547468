/- Composing: triples and hops; the filter lets just one way by (no program in sight). Composing: what Expand and Compose answer, as functions (no program in sight). Numbering what hops lead to, one behind the other (no program in sight). Numbering what hops lead to: what may go wrong, how many arcs there are, numbered again (no program in sight). Numbering what hops lead to, hop by hop (no program in sight). -/
import Derived.Test.YtfekmlblldhieaaDoorJ17a
namespace Go.Proofs.YtfekmlblldhieaaDoor.Pl
set_option linter.unusedVariables false
set_option linter.unusedSimpArgs false
/-- A triple: a state of a, one of b, the filter's. -/
abbrev Tr : Type := Int × Int × Int
/-- A hop: In, Out, Weight, and the triple that it leads to. -/
abbrev Hp : Type := Int × Int × Int × Tr
def hopM (x y : Ar) : Hp := (x.1, y.2.1, x.2.2.1 + y.2.2.1, x.2.2.2, y.2.2.2, 0)
def hopL (x : Ar) (b : Int) : Hp := (x.1, 0, x.2.2.1, x.2.2.2, b, 1)
def hopR (y : Ar) (a : Int) : Hp := (0, y.2.1, y.2.2.1, a, y.2.2.2, 2)
/-- An arc of a and one of b meet. -/
def metB (x y : Ar) (f : Int) : Bool := x.2.1 == y.1 && (decide (0 < x.2.1) || f == 0)
def expX (r : List Ar) (b f : Int) (x : Ar) : List Hp := (r.filter (metB x · f)).map (hopM x) ++ (if x.2.1 = 0 ∧ f ≠ 2 then [hopL x b] else [])
/-- P16.2: the hops. -/
def expL (l r : List Ar) (t : Tr) : List Hp := l.flatMap (expX r t.2.1 t.2.2) ++ (if t.2.2 ≠ 1 then (r.filter (fun y => y.1 == 0)).map (hopR · t.1) else [])
theorem mem_expX {r : List Ar} {b f : Int} {x : Ar} {h : Hp} : h ∈ expX r b f x ↔ (∃ y ∈ r, metB x y f = true ∧ h = hopM x y) ∨ (x.2.1 = 0 ∧ f ≠ 2 ∧ h = hopL x b) := by
  unfold expX
  rw [List.mem_append, List.mem_map]
  constructor
  · rintro (⟨y, hy, rfl⟩ | k)
    · rw [List.mem_filter] at hy
      exact .inl ⟨y, hy.1, hy.2, rfl⟩
    · split at k
      · rename_i g
        rw [List.mem_singleton] at k
        exact .inr ⟨g.1, g.2, k⟩
      · cases k
  · rintro (⟨y, hy, hm, rfl⟩ | ⟨h1, h2, rfl⟩)
    · exact .inl ⟨y, List.mem_filter.2 ⟨hy, hm⟩, rfl⟩
    · right
      rw [if_pos ⟨h1, h2⟩]
      exact List.mem_singleton.2 rfl
theorem mem_expL {l r : List Ar} {t : Tr} {h : Hp} : h ∈ expL l r t ↔ (∃ x ∈ l, ∃ y ∈ r, metB x y t.2.2 = true ∧ h = hopM x y) ∨ (∃ x ∈ l, x.2.1 = 0 ∧ t.2.2 ≠ 2 ∧ h = hopL x t.2.1) ∨ (∃ y ∈ r, y.1 = 0 ∧ t.2.2 ≠ 1 ∧ h = hopR y t.1) := by
  unfold expL
  rw [List.mem_append, List.mem_flatMap]
  constructor
  · rintro (⟨x, hx, k⟩ | k)
    · rcases mem_expX.1 k with ⟨y, hy, hm, e⟩ | ⟨h1, h2, e⟩
      · exact .inl ⟨x, hx, y, hy, hm, e⟩
      · exact .inr (.inl ⟨x, hx, h1, h2, e⟩)
    · split at k
      · rename_i g
        obtain ⟨y, hy, rfl⟩ := List.mem_map.1 k
        rw [List.mem_filter] at hy
        exact .inr (.inr ⟨y, hy.1, by simpa using hy.2, g, rfl⟩)
      · cases k
  · rintro (⟨x, hx, y, hy, hm, e⟩ | ⟨x, hx, h1, h2, e⟩ | ⟨y, hy, h1, h2, e⟩)
    · exact .inl ⟨x, hx, mem_expX.2 (.inl ⟨y, hy, hm, e⟩)⟩
    · exact .inl ⟨x, hx, mem_expX.2 (.inr ⟨h1, h2, e⟩)⟩
    · right
      rw [if_pos h2]
      exact List.mem_map.2 ⟨y, List.mem_filter.2 ⟨hy, by simpa using h1⟩, e.symm⟩
/-- Along hops from both Starts with the filter at 0: to states A, B with the filter at f, reading u, writing v, for c. -/
inductive Hops (la lb : List St) (za zb : Nat) : List Int → List Int → Nat → Nat → Int → Nat → Prop
  | nil : Hops la lb za zb [] [] za zb 0 0
  | snoc {u v : List Int} {p q c : Nat} {f : Int} (h : Hops la lb za zb u v p q f c) {k : Hp} (hk : k ∈ expL (el la p).2 (el lb q).2 ((p : Int), (q : Int), f)) {s t : Nat} (hs : k.2.2.2.1 = (s : Int)) (ht : k.2.2.2.2.1 = (t : Int)) :
      Hops la lb za zb (u ++ lab k.1) (v ++ lab k.2.1) s t k.2.2.2.2.2 (c + k.2.2.1.toNat)
/-- Labels and weights are none below 0. -/
def PosA (l : List St) : Prop := ∀ q, ∀ a ∈ (el l q).2, 0 ≤ a.1 ∧ 0 ≤ a.2.1 ∧ 0 ≤ a.2.2.1
theorem lab_zero : lab 0 = [] := by simp [lab]
/-- Along hops: a way in each, by a word between. -/
theorem Hops.ways {la lb : List St} (pa : PosA la) (pb : PosA lb) {za zb : Nat} {u v : List Int} {p q c : Nat} {f : Int} (h : Hops la lb za zb u v p q f c) : ∃ y d e, Way la za u y p d ∧ Way lb zb y v q e ∧ c = d + e := by
  induction h with
  | nil => exact ⟨[], 0, 0, .nil, .nil, rfl⟩
  | @snoc u v p q c f h k hk s t hs ht ih =>
    obtain ⟨y, d, e, h1, h2, rfl⟩ := ih
    rcases mem_expL.1 hk with ⟨x, hx, z, hz, hm, rfl⟩ | ⟨x, hx, h0, _, rfl⟩ | ⟨z, hz, h0, _, rfl⟩
    · simp only [hopM] at hs ht ⊢
      have e1 : x.2.1 = z.1 := by
        simp only [metB, Bool.and_eq_true] at hm
        simpa using hm.1
      have w1 := h1.snoc hx hs
      have w2 := h2.snoc hz ht
      rw [← e1] at w2
      refine ⟨_, _, _, w1, w2, ?_⟩
      have := (pa p x hx).2.2
      have := (pb q z hz).2.2
      omega
    · simp only [hopL] at hs ht ⊢
      have w1 := h1.snoc hx hs
      rw [h0, lab_zero, List.append_nil] at w1
      rw [lab_zero, List.append_nil]
      have : q = t := by omega
      subst this
      exact ⟨_, _, _, w1, h2, by omega⟩
    · simp only [hopR] at hs ht ⊢
      have w2 := h2.snoc hz ht
      rw [h0, lab_zero, List.append_nil] at w2
      rw [lab_zero, List.append_nil]
      have : p = s := by omega
      subst this
      exact ⟨_, _, _, h1, w2, by omega⟩
/-! Ways with what is empty at their end counted: what a writes, what b reads. -/
inductive WayO (l : List St) (z : Nat) : List Int → List Int → Nat → Nat → Nat → Nat → Prop
  | nil : WayO l z [] [] z 0 0 0
  | emp {u v : List Int} {p c i n : Nat} (h : WayO l z u v p c i n) {a : Ar} (ha : a ∈ (el l p).2) {t : Nat} (ht : a.2.2.2 = (t : Int)) (h0 : a.2.1 = 0) : WayO l z (u ++ lab a.1) v t (c + a.2.2.1.toNat) (i + 1) (n + 1)
  | lab {u v : List Int} {p c i n : Nat} (h : WayO l z u v p c i n) {a : Ar} (ha : a ∈ (el l p).2) {t : Nat} (ht : a.2.2.2 = (t : Int)) (h0 : a.2.1 ≠ 0) : WayO l z (u ++ lab a.1) (v ++ [a.2.1]) t (c + a.2.2.1.toNat) 0 (n + 1)
inductive WayI (l : List St) (z : Nat) : List Int → List Int → Nat → Nat → Nat → Nat → Prop
  | nil : WayI l z [] [] z 0 0 0
  | emp {u v : List Int} {p c i n : Nat} (h : WayI l z u v p c i n) {a : Ar} (ha : a ∈ (el l p).2) {t : Nat} (ht : a.2.2.2 = (t : Int)) (h0 : a.1 = 0) : WayI l z u (v ++ lab a.2.1) t (c + a.2.2.1.toNat) (i + 1) (n + 1)
  | lab {u v : List Int} {p c i n : Nat} (h : WayI l z u v p c i n) {a : Ar} (ha : a ∈ (el l p).2) {t : Nat} (ht : a.2.2.2 = (t : Int)) (h0 : a.1 ≠ 0) : WayI l z (u ++ [a.1]) (v ++ lab a.2.1) t (c + a.2.2.1.toNat) 0 (n + 1)
theorem Way.outs {l : List St} {z : Nat} {u v : List Int} {p c : Nat} (h : Way l z u v p c) : ∃ i n, WayO l z u v p c i n := by
  induction h with
  | nil => exact ⟨0, 0, .nil⟩
  | @snoc u v p c h a ha t ht ih =>
    obtain ⟨i, n, k⟩ := ih
    by_cases g : a.2.1 = 0
    · rw [g, lab_zero, List.append_nil]
      exact ⟨_, _, k.emp ha ht g⟩
    · rw [show lab a.2.1 = [a.2.1] by simp [Pl.lab, g]]
      exact ⟨_, _, k.lab ha ht g⟩
theorem Way.ins {l : List St} {z : Nat} {u v : List Int} {p c : Nat} (h : Way l z u v p c) : ∃ i n, WayI l z u v p c i n := by
  induction h with
  | nil => exact ⟨0, 0, .nil⟩
  | @snoc u v p c h a ha t ht ih =>
    obtain ⟨i, n, k⟩ := ih
    by_cases g : a.1 = 0
    · rw [g, lab_zero, List.append_nil]
      exact ⟨_, _, k.emp ha ht g⟩
    · rw [show lab a.1 = [a.1] by simp [Pl.lab, g]]
      exact ⟨_, _, k.lab ha ht g⟩
/-- Where the filter stands behind i empty ones of a and j of b. -/
def fltF (i j : Nat) : Int := if i = j then 0 else if j < i then 1 else 2
theorem hops_of {la lb : List St} (pa : PosA la) (pb : PosA lb) {za zb : Nat} (N : Nat) : ∀ {u y v : List Int} {p q c d i j n k : Nat}, n + k ≤ N → WayO la za u y p c i n → WayI lb zb y v q d j k → Hops la lb za zb u v p q (fltF i j) (c + d) := by
  induction N with
  | zero =>
    intro u y v p q c d i j n k hN h1 h2
    cases h1 with
    | nil =>
      generalize hy : ([] : List Int) = Y at h2
      cases h2 with
      | nil => exact .nil
      | emp h2 => omega
      | lab h2 => omega
    | emp h1 => omega
    | lab h1 => omega
  | succ N ih =>
    intro u y v p q c d i j n k hN h1 h2
    have h1' := h1
    have h2' := h2
    rcases Nat.lt_trichotomy i j with g | g | g
    · -- the last of b alone
      cases h2 with
      | nil => omega
      | @emp _ v' q' d' j' k' h2 a ha t ht h0 =>
        have r := ih (by omega) h1 h2
        have hm : hopR a (p : Int) ∈ expL (el la p).2 (el lb q').2 ((p : Int), (q' : Int), fltF i j') := mem_expL.2 (.inr (.inr ⟨a, ha, h0, by
          simp only [fltF]
          split
          · omega
          · rw [if_neg (by omega)]; omega, rfl⟩))
        have := r.snoc hm (s := p) (t := q) rfl ht
        simp only [hopR, lab_zero, List.append_nil] at this
        rw [show fltF i (j' + 1) = 2 by simp only [fltF]; rw [if_neg (by omega), if_neg (by omega)], ← Nat.add_assoc]
        exact this
      | lab h2 => omega
    · subst g
      cases h1 with
      | nil =>
        generalize hy : ([] : List Int) = Y at h2
        cases h2 with
        | nil => exact .nil
        | lab h2 => simp at hy
      | @emp u' _ p' c' i' n' h1 a ha t ht h0 =>
        cases h2 with
        | @emp _ v' q' d' j' k' h2 b hb t2 ht2 h02 =>
          have r := ih (by omega) h1 h2
          have e0 : ∀ x, fltF x x = 0 := fun x => by simp [fltF]
          rw [e0] at r ⊢
          have hm : hopM a b ∈ expL (el la p').2 (el lb q').2 ((p' : Int), (q' : Int), 0) := mem_expL.2 (.inl ⟨a, ha, b, hb, by simp [metB, h0, h02], rfl⟩)
          have := r.snoc hm (s := p) (t := q) ht ht2
          simp only [hopM] at this
          have w1 := (pa _ a ha).2.2
          have w2 := (pb _ b hb).2.2
          rw [show c' + a.2.2.1.toNat + (d' + b.2.2.1.toNat) = c' + d' + (a.2.2.1 + b.2.2.1).toNat by omega]
          exact this
      | @lab u' y' p' c' i' n' h1 a ha t ht h0 =>
        generalize hy : y' ++ [a.2.1] = Y at h2
        cases h2 with
        | nil => simp at hy
        | @lab y2 v' q' d' j' k' h2 b hb t2 ht2 h02 =>
          obtain ⟨e1, e2⟩ := List.append_inj' hy rfl
          subst e1
          simp only [List.cons.injEq, and_true] at e2
          have r := ih (by omega) h1 h2
          have hm : hopM a b ∈ expL (el la p').2 (el lb q').2 ((p' : Int), (q' : Int), fltF i' j') := mem_expL.2 (.inl ⟨a, ha, b, hb, by
            have := (pa _ a ha).2.1
            simp only [metB, e2, Bool.and_eq_true, Bool.or_eq_true, decide_eq_true_eq]
            exact ⟨by simp, .inl (by omega)⟩, rfl⟩)
          have := r.snoc hm (s := p) (t := q) ht ht2
          simp only [hopM] at this
          have w1 := (pa _ a ha).2.2
          have w2 := (pb _ b hb).2.2
          rw [show c' + a.2.2.1.toNat + (d' + b.2.2.1.toNat) = c' + d' + (a.2.2.1 + b.2.2.1).toNat by omega, show fltF 0 0 = 0 by simp [fltF]]
          exact this
    · cases h1 with
      | nil => omega
      | @emp u' _ p' c' i' n' h1 a ha t ht h0 =>
        have r := ih (by omega) h1 h2
        have hm : hopL a (q : Int) ∈ expL (el la p').2 (el lb q).2 ((p' : Int), (q : Int), fltF i' j) := mem_expL.2 (.inr (.inl ⟨a, ha, h0, by
          simp only [fltF]
          split
          · omega
          · rw [if_pos (by omega)]; omega, rfl⟩))
        have := r.snoc hm (s := p) (t := q) ht rfl
        simp only [hopL, lab_zero, List.append_nil] at this
        rw [show fltF (i' + 1) j = 1 by simp only [fltF]; rw [if_neg (by omega), if_pos (by omega)], show c' + a.2.2.1.toNat + d = c' + d + a.2.2.1.toNat by omega]
        exact this
      | lab h1 => omega
/-- THE FILTER: along hops from both Starts one comes just where both machines come by a word between, for both costs. -/
theorem hops_iff {la lb : List St} (pa : PosA la) (pb : PosA lb) {za zb : Nat} {u v : List Int} {p q c : Nat} : (∃ f, Hops la lb za zb u v p q f c) ↔ ∃ y d e, Way la za u y p d ∧ Way lb zb y v q e ∧ c = d + e := by
  constructor
  · rintro ⟨f, h⟩
    exact h.ways pa pb
  · rintro ⟨y, d, e, h1, h2, rfl⟩
    obtain ⟨i, n, k1⟩ := h1.outs
    obtain ⟨j, m, k2⟩ := h2.ins
    exact ⟨_, hops_of pa pb _ (Nat.le_refl _) k1 k2⟩
end Go.Proofs.YtfekmlblldhieaaDoor.Pl
namespace Go.Proofs.YtfekmlblldhieaaDoor.Pl
set_option linter.unusedVariables false
set_option linter.unusedSimpArgs false
/-- There is such a triple. -/
def trB (a b : Mc) (t : Tr) : Bool := inB t.1 0 ((a.2.length : Int) - 1) && inB t.2.1 0 ((b.2.length : Int) - 1) && inB t.2.2 0 2
/-- P16.2: a triple's Final and hops. -/
def finTr (a b : Mc) (t : Tr) : Int := bothI (el a.2 t.1.toNat).1 (el b.2 t.2.1.toNat).1
def expT (a b : Mc) (t : Tr) : List Hp := expL (el a.2 t.1.toNat).2 (el b.2 t.2.1.toNat).2 t
def expO (a b : Mc) (t : Tr) : Bool := ((el a.2 t.1.toNat).1 != 1000000001 && (el b.2 t.2.1.toNat).1 != 1000000001 && decide (1000000000 < (el a.2 t.1.toNat).1 + (el b.2 t.2.1.toNat).1)) || (expT a b t).any (fun h => decide (1000000000 < h.2.2.1))
def expE (a b : Mc) (t : Tr) : Int := if faultM a ≠ 0 then faultM a else if faultM b ≠ 0 then faultM b else if trB a b t = false then 13 else if expO a b t = true then 4 else 0
def expF (a b : Mc) (t : Tr) : Int := if expE a b t = 0 then finTr a b t else 0
def expR (a b : Mc) (t : Tr) : List Hp := if expE a b t = 0 then expT a b t else []
/-- P16.3: triples, numbered. -/
def addQ (L : List Tr) (t : Tr) : List Tr := if t ∈ L then L else L ++ [t]
def arcTr (L : List Tr) (h : Hp) : Ar := (h.1, h.2.1, h.2.2.1, (L.idxOf h.2.2.2 : Int))
def cpsH : List Hp → List Tr → List Tr × List Ar
  | [], L => (L, [])
  | h :: hs, L => ((cpsH hs (addQ L h.2.2.2)).1, arcTr L h :: (cpsH hs (addQ L h.2.2.2)).2)
theorem cpsH_append (hs ks : List Hp) : ∀ L, cpsH (hs ++ ks) L = ((cpsH ks (cpsH hs L).1).1, (cpsH hs L).2 ++ (cpsH ks (cpsH hs L).1).2) := by
  induction hs with
  | nil => intro L; rfl
  | cons h hs ih => intro L; simp only [List.cons_append, cpsH, ih]
theorem addQ_ext (L : List Tr) (t : Tr) : ∃ E, addQ L t = L ++ E := by
  unfold addQ
  split
  · exact ⟨[], by simp⟩
  · exact ⟨[t], rfl⟩
theorem addQ_mem (L : List Tr) (t : Tr) : t ∈ addQ L t := by
  unfold addQ
  split
  · assumption
  · simp
theorem addQ_nodup {L : List Tr} (h : L.Nodup) (t : Tr) : (addQ L t).Nodup := by
  unfold addQ
  split
  · exact h
  · rename_i g
    rw [List.nodup_append]
    refine ⟨h, by simp, fun x hx y hy e => ?_⟩
    simp only [List.mem_singleton] at hy
    exact g (by rw [← hy, ← e]; exact hx)
theorem idx_ext {L E : List Tr} {t : Tr} (h : t ∈ L) : (L ++ E).idxOf t = L.idxOf t := by
  rw [List.idxOf_append, if_pos h]
theorem addQ_idx (L : List Tr) (t : Tr) : (addQ L t).idxOf t = L.idxOf t := by
  unfold addQ
  split
  · rfl
  · rename_i g
    rw [List.idxOf_append, if_neg g, List.idxOf_eq_length g]
    simp
theorem cpsH_facts (hs : List Hp) : ∀ L : List Tr, L.Nodup → (∃ E, (cpsH hs L).1 = L ++ E) ∧ (cpsH hs L).1.Nodup ∧ (∀ h ∈ hs, h.2.2.2 ∈ (cpsH hs L).1) ∧ (cpsH hs L).2 = hs.map (arcTr (cpsH hs L).1) := by
  induction hs with
  | nil => intro L h; exact ⟨⟨[], by simp [cpsH]⟩, h, fun h hh => (by cases hh), rfl⟩
  | cons h hs ih =>
    intro L hL
    obtain ⟨⟨E, e1⟩, h2, h3, h4⟩ := ih _ (addQ_nodup hL h.2.2.2)
    obtain ⟨D, e2⟩ := addQ_ext L h.2.2.2
    have hin : h.2.2.2 ∈ (cpsH hs (addQ L h.2.2.2)).1 := by
      rw [e1]
      exact List.mem_append_left _ (addQ_mem _ _)
    refine ⟨⟨D ++ E, by simp only [cpsH]; rw [e1, e2, List.append_assoc]⟩, h2, fun k hk => ?_, ?_⟩
    · rcases List.mem_cons.1 hk with rfl | hk
      · exact hin
      · exact h3 k hk
    · simp only [cpsH, List.map_cons]
      rw [h4]
      congr 1
      simp only [arcTr]
      rw [e1, idx_ext (addQ_mem _ _), addQ_idx]
def cpsS (a b : Mc) : Nat → Nat → List Tr → List St → Nat → Mc × Int
  | 0, _, _, _, _ => ((0, []), 5)
  | k + 1, q, L, S, n =>
    if q < L.length then
      if expE a b (el L q) ≠ 0 then ((0, []), expE a b (el L q))
      else if 400 < n + (expT a b (el L q)).length ∨ 60 < (cpsH (expT a b (el L q)) L).1.length then ((0, []), 5)
      else cpsS a b k (q + 1) (cpsH (expT a b (el L q)) L).1 (S ++ [(finTr a b (el L q), (cpsH (expT a b (el L q)) L).2)]) (n + (expT a b (el L q)).length)
    else ((0, S), 0)
/-- What Compose answers. -/
def cpsA (a b : Mc) : Mc × Int := if faultM a ≠ 0 then ((0, []), faultM a) else if faultM b ≠ 0 then ((0, []), faultM b) else if a.1 < 0 ∨ b.1 < 0 then ((-1, []), 0) else cpsS a b 61 0 [(a.1, b.1, 0)] [] 0
/-- So far: the first q of the triples L are states of S. -/
structure CmpI (a b : Mc) (q : Nat) (L : List Tr) (S : List St) : Prop where
  nodup : L.Nodup
  le : q ≤ L.length
  len : S.length = q
  start : ∃ E, L = (a.1, b.1, 0) :: E
  right : ∀ i, i < q → expE a b (el L i) = 0
  shut : ∀ i, i < q → ∀ h ∈ expT a b (el L i), h.2.2.2 ∈ L
  sts : ∀ i, i < q → el S i = (finTr a b (el L i), (expT a b (el L i)).map (arcTr L))
theorem el_appendL {α : Type} [Inhabited α] {l k : List α} {i : Nat} (h : i < l.length) : el (l ++ k) i = el l i := by
  simp [el, List.getElem?_append_left h, h]
theorem el_appendE {α : Type} [Inhabited α] {l : List α} {x : α} : el (l ++ [x]) l.length = x := by
  simp [el]
theorem CmpI.step {a b : Mc} {q : Nat} {L : List Tr} {S : List St} (h : CmpI a b q L S) (hq : q < L.length) (he : expE a b (el L q) = 0) :
    CmpI a b (q + 1) (cpsH (expT a b (el L q)) L).1 (S ++ [(finTr a b (el L q), (cpsH (expT a b (el L q)) L).2)]) := by
  obtain ⟨⟨E, e1⟩, h2, h3, h4⟩ := cpsH_facts (expT a b (el L q)) L h.nodup
  rw [h4]
  generalize (cpsH (expT a b (el L q)) L).1 = L' at *
  subst e1
  have hel : ∀ i, i < L.length → el (L ++ E) i = el L i := fun i hi => el_appendL hi
  refine ⟨h2, by simp; omega, by simp [h.len], ?_, fun i hi => ?_, fun i hi k hk => ?_, fun i hi => ?_⟩
  · obtain ⟨D, e⟩ := h.start
    exact ⟨D ++ E, by rw [e]; rfl⟩
  · rw [hel i (by omega)]
    rcases Nat.lt_succ_iff_lt_or_eq.1 hi with g | rfl
    · exact h.right i g
    · exact he
  · rw [hel i (by omega)] at hk
    rcases Nat.lt_succ_iff_lt_or_eq.1 hi with g | rfl
    · exact List.mem_append_left _ (h.shut i g k hk)
    · exact h3 k hk
  · rw [hel i (by omega)]
    rcases Nat.lt_succ_iff_lt_or_eq.1 hi with g | rfl
    · rw [el_appendL (by rw [h.len]; exact g), h.sts i g]
      congr 1
      refine List.map_congr_left fun k hk => ?_
      simp only [arcTr]
      rw [idx_ext (h.shut i g k hk)]
    · have := h.len
      subst this
      rw [el_appendE]
theorem cpsS_done {a b : Mc} : ∀ (k q : Nat) (L : List Tr) (S : List St) (n : Nat) (x : Mc), CmpI a b q L S → cpsS a b k q L S n = (x, 0) → x.1 = 0 ∧ ∃ L', CmpI a b L'.length L' x.2 := by
  intro k
  induction k with
  | zero => intro q L S n x h e; simp only [cpsS, Prod.mk.injEq] at e; exact absurd e.2 (by decide)
  | succ k ih =>
    intro q L S n x h e
    simp only [cpsS] at e
    split at e
    · rename_i hq
      split at e
      · rename_i he
        simp only [Prod.mk.injEq] at e
        exact absurd e.2 he
      · rename_i he
        split at e
        · simp only [Prod.mk.injEq] at e; exact absurd e.2 (by decide)
        · exact ih _ _ _ _ _ (h.step hq (by simpa using he)) e
    · rename_i hq
      simp only [Prod.mk.injEq] at e
      obtain ⟨rfl, _⟩ := e
      have : q = L.length := by have := h.le; omega
      subst this
      exact ⟨rfl, L, h⟩
theorem CmpI.init (a b : Mc) : CmpI a b 0 [(a.1, b.1, 0)] [] := ⟨by simp, by simp, rfl, ⟨[], rfl⟩, fun i hi => by omega, fun i hi => by omega, fun i hi => by omega⟩
/-- Composed: right machines with Starts. -/
theorem cpsA_done {a b x : Mc} (ha : faultM a = 0) (hb : faultM b = 0) (h1 : 0 ≤ a.1) (h2 : 0 ≤ b.1) (h : cpsA a b = (x, 0)) : x.1 = 0 ∧ ∃ L, CmpI a b L.length L x.2 := by
  unfold cpsA at h
  rw [if_neg (by simpa using ha), if_neg (by simpa using hb), if_neg (by omega)] at h
  exact cpsS_done _ _ _ _ _ _ (CmpI.init a b) h
end Go.Proofs.YtfekmlblldhieaaDoor.Pl
namespace Go.Proofs.YtfekmlblldhieaaDoor.Pl
set_option linter.unusedVariables false
set_option linter.unusedSimpArgs false
/-- A hop: what it reads, what it writes, what it costs, where it leads. -/
abbrev Hg (α : Type) := Int × Int × Int × α
section
variable {α : Type} [DecidableEq α]
def addG (L : List α) (t : α) : List α := if t ∈ L then L else L ++ [t]
def arcG (L : List α) (h : Hg α) : Ar := (h.1, h.2.1, h.2.2.1, (L.idxOf h.2.2.2 : Int))
/-- The hops of one, numbered: an error, all that are numbered, the arcs. -/
def numH : List (Hg α) → List α → Nat → Int × List α × List Ar
  | [], L, _ => (0, L, [])
  | h :: hs, L, n => if 1000000000 < h.2.2.1 then (4, [], []) else if 400 < n + 1 ∨ 60 < (addG L h.2.2.2).length then (5, [], []) else ((numH hs (addG L h.2.2.2) (n + 1)).1, (numH hs (addG L h.2.2.2) (n + 1)).2.1, arcG L h :: (numH hs (addG L h.2.2.2) (n + 1)).2.2)
theorem addG_ext (L : List α) (t : α) : ∃ E, addG L t = L ++ E := by
  unfold addG
  split
  · exact ⟨[], by simp⟩
  · exact ⟨[t], rfl⟩
theorem addG_mem (L : List α) (t : α) : t ∈ addG L t := by
  unfold addG
  split
  · assumption
  · simp
theorem addG_nodup {L : List α} (h : L.Nodup) (t : α) : (addG L t).Nodup := by
  unfold addG
  split
  · exact h
  · rename_i g
    rw [List.nodup_append]
    refine ⟨h, by simp, fun x hx y hy e => ?_⟩
    simp only [List.mem_singleton] at hy
    exact g (by rw [← hy, ← e]; exact hx)
theorem addG_old {L : List α} {t : α} (h : t ∈ L) : addG L t = L := if_pos h
theorem addG_new {L : List α} {t : α} (h : t ∉ L) : addG L t = L ++ [t] := if_neg h
theorem addG_len (L : List α) (t : α) : L.length ≤ (addG L t).length ∧ (addG L t).length ≤ L.length + 1 := by
  unfold addG
  split
  · omega
  · simp
theorem idxG_ext {L E : List α} {t : α} (h : t ∈ L) : (L ++ E).idxOf t = L.idxOf t := by
  rw [List.idxOf_append, if_pos h]
theorem addG_idx (L : List α) (t : α) : (addG L t).idxOf t = L.idxOf t := by
  unfold addG
  split
  · rfl
  · rename_i g
    rw [List.idxOf_append, if_neg g, List.idxOf_eq_length g]
    simp
theorem idxG_new {L : List α} {t : α} (h : t ∉ L) : L.idxOf t = L.length := List.idxOf_eq_length h
/-- What numbering hops does, where nothing is wrong. -/
theorem numH_facts (hs : List (Hg α)) : ∀ (L : List α) (n : Nat), L.Nodup → (numH hs L n).1 = 0 → (∃ E, (numH hs L n).2.1 = L ++ E) ∧ (numH hs L n).2.1.Nodup ∧ (∀ h ∈ hs, h.2.2.2 ∈ (numH hs L n).2.1 ∧ h.2.2.1 ≤ 1000000000) ∧ (numH hs L n).2.2 = hs.map (arcG (numH hs L n).2.1) ∧ (L.length ≤ 60 → (numH hs L n).2.1.length ≤ 60) ∧ (n ≤ 400 → n + hs.length ≤ 400) := by
  induction hs with
  | nil => intro L n h _; exact ⟨⟨[], by simp [numH]⟩, h, fun h hh => (by cases hh), rfl, fun h => h, fun h => h⟩
  | cons h hs ih =>
    intro L n hL h0
    simp only [numH] at h0 ⊢
    by_cases c1 : 1000000000 < h.2.2.1
    · rw [if_pos c1] at h0
      cases h0
    · rw [if_neg c1] at h0 ⊢
      by_cases c2 : 400 < n + 1 ∨ 60 < (addG L h.2.2.2).length
      · rw [if_pos c2] at h0
        cases h0
      · rw [if_neg c2] at h0 ⊢
        simp only at h0 ⊢
        obtain ⟨⟨E, e1⟩, h2, h3, h4, h5, h6⟩ := ih _ (n + 1) (addG_nodup hL h.2.2.2) h0
        obtain ⟨D, e2⟩ := addG_ext L h.2.2.2
        have hin : h.2.2.2 ∈ (numH hs (addG L h.2.2.2) (n + 1)).2.1 := by
          rw [e1]
          exact List.mem_append_left _ (addG_mem _ _)
        refine ⟨⟨D ++ E, by rw [e1, e2, List.append_assoc]⟩, h2, fun k hk => ?_, ?_, fun _ => h5 (by omega), fun _ => ?_⟩
        · rcases List.mem_cons.1 hk with rfl | hk
          · exact ⟨hin, by omega⟩
          · exact h3 k hk
        · simp only [List.map_cons]
          rw [h4]
          congr 1
          simp only [arcG]
          rw [e1, idxG_ext (addG_mem _ _), addG_idx]
        · have := h6 (by omega)
          simp only [List.length_cons]
          omega
/-- What is new was led to by one of the hops. -/
theorem numH_led (hs : List (Hg α)) : ∀ (L : List α) (n : Nat), (numH hs L n).1 = 0 → ∀ t ∈ (numH hs L n).2.1, t ∈ L ∨ ∃ h ∈ hs, h.2.2.2 = t := by
  induction hs with
  | nil => intro L n _ t ht; exact .inl ht
  | cons h hs ih =>
    intro L n h0 t ht
    simp only [numH] at h0 ht
    by_cases c1 : 1000000000 < h.2.2.1
    · rw [if_pos c1] at h0
      cases h0
    · rw [if_neg c1] at h0 ht
      by_cases c2 : 400 < n + 1 ∨ 60 < (addG L h.2.2.2).length
      · rw [if_pos c2] at h0
        cases h0
      · rw [if_neg c2] at h0 ht
        rcases ih _ _ h0 t ht with g | ⟨k, hk, e⟩
        · by_cases m : h.2.2.2 ∈ L
          · rw [addG_old m] at g; exact .inl g
          · rw [addG_new m] at g
            rcases List.mem_append.1 g with g | g
            · exact .inl g
            · simp only [List.mem_singleton] at g
              exact .inr ⟨h, List.mem_cons_self, g.symm⟩
        · exact .inr ⟨k, List.mem_cons_of_mem _ hk, e⟩
end
section
variable {α : Type} [DecidableEq α] [Inhabited α]
variable (fin : α → Int × Int) (hops : α → List (Hg α))
def numS : Nat → Nat → List α → List St → Nat → Mc × Int
  | 0, _, _, _, _ => ((0, []), 5)
  | k + 1, q, L, S, n =>
    if q < L.length then
      if (fin (el L q)).2 ≠ 0 then ((0, []), (fin (el L q)).2)
      else if (numH (hops (el L q)) L n).1 ≠ 0 then ((0, []), (numH (hops (el L q)) L n).1)
      else numS k (q + 1) (numH (hops (el L q)) L n).2.1 (S ++ [((fin (el L q)).1, (numH (hops (el L q)) L n).2.2)]) (n + (hops (el L q)).length)
    else ((0, S), 0)
def numA (s0 : α) : Mc × Int := numS fin hops 61 0 [s0] [] 0
variable {fin} {hops}
theorem idxG_el {L : List α} (hn : L.Nodup) {k : Nat} (h : k < L.length) : L.idxOf (el L k) = k := by
  induction L generalizing k with
  | nil => simp at h
  | cons x L ih =>
    rw [List.nodup_cons] at hn
    cases k with
    | zero => simp [el]
    | succ k =>
      have hk : k < L.length := by simpa using h
      have e9 : el (x :: L) (k + 1) = el L k := by simp [el]
      have hne : ¬ x = el L k := fun e => hn.1 (by rw [e]; exact el_mem hk)
      rw [e9, List.idxOf_cons]
      have hb : (x == el L k) = false := by simpa using hne
      rw [hb, ih hn.2 hk]
      rfl
theorem el_idxG {L : List α} {t : α} (h : t ∈ L) : L.idxOf t < L.length ∧ el L (L.idxOf t) = t := by
  have h1 : L.idxOf t < L.length := List.idxOf_lt_length_iff.2 h
  exact ⟨h1, by rw [el_get h1]; exact List.getElem_idxOf h1⟩
/-- So far: the first q of L are states of S. -/
structure ExpI (fin : α → Int × Int) (hops : α → List (Hg α)) (s0 : α) (q : Nat) (L : List α) (S : List St) : Prop where
  nodup : L.Nodup
  le : q ≤ L.length
  l60 : L.length ≤ 60
  len : S.length = q
  start : ∃ E, L = s0 :: E
  right : ∀ i, i < q → (fin (el L i)).2 = 0
  low : ∀ i, i < q → ∀ h ∈ hops (el L i), h.2.2.1 ≤ 1000000000
  shut : ∀ i, i < q → ∀ h ∈ hops (el L i), h.2.2.2 ∈ L
  sts : ∀ i, i < q → el S i = ((fin (el L i)).1, (hops (el L i)).map (arcG L))
  led : ∀ i, 0 < i → i < L.length → ∃ j h, j < i ∧ j < q + 1 ∧ h ∈ hops (el L j) ∧ h.2.2.2 = el L i
theorem ExpI.init (fin : α → Int × Int) (hops : α → List (Hg α)) (s0 : α) : ExpI fin hops s0 0 [s0] [] := ⟨by simp, by simp, by simp, rfl, ⟨[], rfl⟩, fun i hi => by omega, fun i hi => by omega, fun i hi => by omega, fun i hi => by omega, fun i h0 hi => by simp at hi; omega⟩
theorem ExpI.step {s0 : α} {q : Nat} {L : List α} {S : List St} {n : Nat} (h : ExpI fin hops s0 q L S) (hq : q < L.length) (he : (fin (el L q)).2 = 0) (h0 : (numH (hops (el L q)) L n).1 = 0) :
    ExpI fin hops s0 (q + 1) (numH (hops (el L q)) L n).2.1 (S ++ [((fin (el L q)).1, (numH (hops (el L q)) L n).2.2)]) := by
  obtain ⟨⟨E, e1⟩, h2, h3, h4, h5, _⟩ := numH_facts (hops (el L q)) L n h.nodup h0
  have h6 := numH_led (hops (el L q)) L n h0
  have h5 := h5 h.l60
  rw [h4]
  generalize (numH (hops (el L q)) L n).2.1 = L' at *
  subst e1
  have hel : ∀ i, i < L.length → el (L ++ E) i = el L i := fun i hi => el_appendL hi
  refine ⟨h2, by simp; omega, h5, by simp [h.len], ?_, fun i hi => ?_, fun i hi k hk => ?_, fun i hi k hk => ?_, fun i hi => ?_, fun i hp hi => ?_⟩
  · obtain ⟨D, e⟩ := h.start
    exact ⟨D ++ E, by rw [e]; rfl⟩
  · rw [hel i (by omega)]
    rcases Nat.lt_succ_iff_lt_or_eq.1 hi with g | rfl
    · exact h.right i g
    · exact he
  · rw [hel i (by omega)] at hk
    rcases Nat.lt_succ_iff_lt_or_eq.1 hi with g | rfl
    · exact h.low i g k hk
    · exact (h3 k hk).2
  · rw [hel i (by omega)] at hk
    rcases Nat.lt_succ_iff_lt_or_eq.1 hi with g | rfl
    · exact List.mem_append_left _ (h.shut i g k hk)
    · exact (h3 k hk).1
  · rw [hel i (by omega)]
    rcases Nat.lt_succ_iff_lt_or_eq.1 hi with g | rfl
    · rw [el_appendL (by rw [h.len]; exact g), h.sts i g]
      congr 1
      refine List.map_congr_left fun k hk => ?_
      simp only [arcG]
      rw [idxG_ext (h.shut i g k hk)]
    · have := h.len
      subst this
      rw [el_appendE]
  · by_cases hl : i < L.length
    · obtain ⟨j, k, g1, g2, g3, g4⟩ := h.led i hp hl
      exact ⟨j, k, g1, by omega, by rw [hel j (by omega)]; exact g3, by rw [hel i hl]; exact g4⟩
    · have hm : el (L ++ E) i ∈ L ++ E := el_mem hi
      rcases h6 _ hm with g | ⟨k, hk, e⟩
      · obtain ⟨j, hj, ej⟩ := List.getElem_of_mem g
        have h7 := idxG_el h2 hi
        have h8 := idxG_el h2 (k := j) (by simp; omega)
        rw [hel j hj, el_get hj, ej, h7] at h8
        omega
      · exact ⟨q, k, by omega, by omega, by rw [hel q hq]; exact hk, e⟩
theorem numS_done {s0 : α} : ∀ (k q : Nat) (L : List α) (S : List St) (n : Nat) (x : Mc), ExpI fin hops s0 q L S → numS fin hops k q L S n = (x, 0) → x.1 = 0 ∧ ∃ L', (∃ E, L' = L ++ E) ∧ ExpI fin hops s0 L'.length L' x.2 := by
  intro k
  induction k with
  | zero => intro q L S n x h e; simp only [numS, Prod.mk.injEq] at e; exact absurd e.2 (by decide)
  | succ k ih =>
    intro q L S n x h e
    simp only [numS] at e
    split at e
    · rename_i hq
      split at e
      · rename_i he
        simp only [Prod.mk.injEq] at e
        exact absurd e.2 he
      · rename_i he
        split at e
        · rename_i h0; simp only [Prod.mk.injEq] at e; exact absurd e.2 h0
        · rename_i h0
          have h0' : (numH (hops (el L q)) L n).1 = 0 := by simpa using h0
          obtain ⟨h1, L', ⟨E, e2⟩, h2⟩ := ih _ _ _ _ _ (h.step hq (by simpa using he) h0') e
          obtain ⟨⟨D, e3⟩, _⟩ := numH_facts (hops (el L q)) L n h.nodup h0'
          exact ⟨h1, L', ⟨D ++ E, by rw [e2, e3, List.append_assoc]⟩, h2⟩
    · rename_i hq
      simp only [Prod.mk.injEq] at e
      obtain ⟨rfl, _⟩ := e
      have : q = L.length := by have := h.le; omega
      subst this
      exact ⟨rfl, L, ⟨[], by simp⟩, h⟩
theorem numA_done {s0 : α} {x : Mc} (h : numA fin hops s0 = (x, 0)) : x.1 = 0 ∧ ∃ L, ExpI fin hops s0 L.length L x.2 := by
  obtain ⟨h1, L, _, h2⟩ := numS_done _ _ _ _ _ _ (ExpI.init fin hops s0) h
  exact ⟨h1, L, h2⟩
/-- Along hops. -/
inductive HopG (hops : α → List (Hg α)) (s0 : α) : List Int → List Int → α → Nat → Prop
  | nil : HopG hops s0 [] [] s0 0
  | snoc {u v : List Int} {t : α} {c : Nat} {h : Hg α} : HopG hops s0 u v t c → h ∈ hops t → HopG hops s0 (u ++ lab h.1) (v ++ lab h.2.1) h.2.2.2 (c + h.2.2.1.toNat)
theorem ExpI.zero {s0 : α} {q : Nat} {L : List α} {S : List St} (h : ExpI fin hops s0 q L S) : 0 < L.length ∧ el L 0 = s0 ∧ L.idxOf s0 = 0 := by
  obtain ⟨E, rfl⟩ := h.start
  exact ⟨by simp, by simp [el], by simp⟩
theorem ExpI.hop {s0 : α} {L : List α} {S : List St} (h : ExpI fin hops s0 L.length L S) {u v : List Int} {t : α} {c : Nat} (hw : HopG hops s0 u v t c) : t ∈ L ∧ Way S 0 u v (L.idxOf t) c := by
  induction hw with
  | nil =>
    obtain ⟨h1, h2, h3⟩ := h.zero
    rw [h3]
    exact ⟨by obtain ⟨E, rfl⟩ := h.start; simp, .nil⟩
  | snoc hw hh ih =>
    rename_i u v t c k
    obtain ⟨i1, i2⟩ := ih
    obtain ⟨g1, g2⟩ := el_idxG i1
    have hk : k ∈ hops (el L (L.idxOf t)) := by rw [g2]; exact hh
    refine ⟨h.shut _ g1 k hk, ?_⟩
    have hm : arcG L k ∈ (el S (L.idxOf t)).2 := by
      rw [h.sts _ g1]
      exact List.mem_map_of_mem hk
    exact i2.snoc hm rfl
theorem ExpI.hopAt {s0 : α} {L : List α} {S : List St} (h : ExpI fin hops s0 L.length L S) {u v : List Int} {t : α} {c : Nat} (hw : HopG hops s0 u v t c) : ∃ i, i < L.length ∧ el L i = t ∧ Way S 0 u v i c := by
  obtain ⟨h1, h2⟩ := h.hop hw
  obtain ⟨h3, h4⟩ := el_idxG h1
  exact ⟨_, h3, h4, h2⟩
theorem ExpI.way {s0 : α} {L : List α} {S : List St} (h : ExpI fin hops s0 L.length L S) {u v : List Int} {p c : Nat} (hw : Way S 0 u v p c) : p < L.length ∧ HopG hops s0 u v (el L p) c := by
  induction hw with
  | nil =>
    obtain ⟨h1, h2, h3⟩ := h.zero
    rw [h2]
    exact ⟨h1, .nil⟩
  | snoc hw ha ht ih =>
    rename_i u v p c a t
    obtain ⟨i1, i2⟩ := ih
    rw [h.sts p i1] at ha
    obtain ⟨k, hk, rfl⟩ := List.mem_map.1 ha
    have ht' : L.idxOf k.2.2.2 = t := by simp only [arcG] at ht; omega
    obtain ⟨g1, g2⟩ := el_idxG (h.shut p i1 k hk)
    rw [ht'] at g1 g2
    refine ⟨g1, ?_⟩
    rw [g2]
    exact i2.snoc hk
end
end Go.Proofs.YtfekmlblldhieaaDoor.Pl
namespace Go.Proofs.YtfekmlblldhieaaDoor.Pl
set_option linter.unusedVariables false
set_option linter.unusedSimpArgs false
section
variable {α : Type} [DecidableEq α]
theorem numH_err (hs : List (Hg α)) : ∀ (L : List α) (n : Nat), (∀ h ∈ hs, h.2.2.1 ≤ 1000000000) → (numH hs L n).1 = 0 ∨ (numH hs L n).1 = 5 := by
  induction hs with
  | nil => intro L n _; exact .inl rfl
  | cons h hs ih =>
    intro L n hl
    simp only [numH]
    rw [if_neg (by have := hl h List.mem_cons_self; omega)]
    split
    · exact .inr rfl
    · exact ih _ _ fun k hk => hl k (List.mem_cons_of_mem _ hk)
end
section
variable {α : Type} [DecidableEq α] [Inhabited α] {fin : α → Int × Int} {hops : α → List (Hg α)}
/-- Where nothing costs too much: numbered, or too large. -/
theorem numS_full {s0 : α} (H : ∀ q L S, ExpI fin hops s0 q L S → ∀ i, i < L.length → (fin (el L i)).2 = 0 ∧ ∀ h ∈ hops (el L i), h.2.2.1 ≤ 1000000000) : ∀ (k q : Nat) (L : List α) (S : List St) (n : Nat), ExpI fin hops s0 q L S → numS fin hops k q L S n = ((0, []), 5) ∨ ∃ x, numS fin hops k q L S n = (x, 0) := by
  intro k
  induction k with
  | zero => intro q L S n _; exact .inl rfl
  | succ k ih =>
    intro q L S n h
    simp only [numS]
    by_cases hq : q < L.length
    · obtain ⟨h1, h2⟩ := H q L S h q hq
      rw [if_pos hq, if_neg (fun g => g h1)]
      rcases numH_err (hops (el L q)) L n h2 with e | e
      · rw [if_neg (fun g => g e)]
        exact ih _ _ _ _ (h.step hq h1 e)
      · rw [if_pos (by rw [e]; decide), e]
        exact .inl rfl
    · rw [if_neg hq]
      exact .inr ⟨_, rfl⟩
theorem numA_full {s0 : α} (H : ∀ q L S, ExpI fin hops s0 q L S → ∀ i, i < L.length → (fin (el L i)).2 = 0 ∧ ∀ h ∈ hops (el L i), h.2.2.1 ≤ 1000000000) : numA fin hops s0 = ((0, []), 5) ∨ ∃ x, numA fin hops s0 = (x, 0) := numS_full H _ _ _ _ _ (ExpI.init fin hops s0)
/-- How many arcs there are. -/
theorem numS_arcs {s0 : α} : ∀ (k q : Nat) (L : List α) (S : List St) (n : Nat) (x : Mc), ExpI fin hops s0 q L S → arcN S = n → n ≤ 400 → numS fin hops k q L S n = (x, 0) → arcN x.2 ≤ 400 := by
  intro k
  induction k with
  | zero => intro q L S n x _ _ _ e; simp only [numS, Prod.mk.injEq] at e; exact absurd e.2 (by decide)
  | succ k ih =>
    intro q L S n x h ha h4 e
    simp only [numS] at e
    split at e
    · rename_i hq
      split at e
      · rename_i he
        simp only [Prod.mk.injEq] at e
        exact absurd e.2 he
      · rename_i he
        split at e
        · rename_i h0; simp only [Prod.mk.injEq] at e; exact absurd e.2 h0
        · rename_i h0
          have h0' : (numH (hops (el L q)) L n).1 = 0 := by simpa using h0
          obtain ⟨_, _, _, f4, _, f6⟩ := numH_facts (hops (el L q)) L n h.nodup h0'
          refine ih _ _ _ _ _ (h.step hq (by simpa using he) h0') ?_ (f6 h4) e
          rw [arcN_append, ha, f4]
          simp [arcN]
    · simp only [Prod.mk.injEq] at e
      obtain ⟨rfl, _⟩ := e
      simp only
      omega
theorem numA_arcs {s0 : α} {x : Mc} (h : numA fin hops s0 = (x, 0)) : arcN x.2 ≤ 400 := numS_arcs _ _ _ _ _ _ (ExpI.init fin hops s0) rfl (by simp [arcN]) h
end
section
variable {α β : Type} [DecidableEq α] [DecidableEq β] [Inhabited α] [Inhabited β] {fin : α → Int × Int} {hops : α → List (Hg α)} {fin' : β → Int × Int} {hops' : β → List (Hg β)} {g : Nat → β}
/-- Numbered again, by other names. -/
theorem numH_again (hg : ∀ i j, g i = g j → i = j) {F : List α} (hF : F.Nodup) (hs : List (Hg α)) : ∀ (L : List α) (n : Nat), (∃ E, F = L ++ E) → (numH hs L n).1 = 0 → (∃ E, F = (numH hs L n).2.1 ++ E) →
    numH (hs.map fun h => (h.1, h.2.1, h.2.2.1, g (F.idxOf h.2.2.2))) ((List.range L.length).map g) n = (0, (List.range (numH hs L n).2.1.length).map g, (numH hs L n).2.2) := by
  induction hs with
  | nil => intro L n _ _ _; simp [numH]
  | cons h hs ih =>
    intro L n hL h0 hE
    simp only [numH] at h0 hE ⊢
    by_cases c1 : 1000000000 < h.2.2.1
    · rw [if_pos c1] at h0
      cases h0
    · rw [if_neg c1] at h0 hE ⊢
      by_cases c2 : 400 < n + 1 ∨ 60 < (addG L h.2.2.2).length
      · rw [if_pos c2] at h0
        cases h0
      · rw [if_neg c2] at h0 hE ⊢
        simp only at h0 hE ⊢
        simp only [List.map_cons, numH]
        rw [if_neg c1]
        -- what is added there is what is added here
        have hnd : (addG L h.2.2.2).Nodup := by
          obtain ⟨D, e⟩ := hL
          have : L.Nodup := by rw [e, List.nodup_append] at hF; exact hF.1
          exact addG_nodup this _
        obtain ⟨⟨D, eD⟩, _⟩ := numH_facts hs (addG L h.2.2.2) (n + 1) hnd h0
        have hFL : ∃ E, F = addG L h.2.2.2 ++ E := by
          obtain ⟨E, e⟩ := hE
          exact ⟨D ++ E, by rw [e, eD, List.append_assoc]⟩
        have hidx : F.idxOf h.2.2.2 = L.idxOf h.2.2.2 := by
          obtain ⟨E, e⟩ := hFL
          rw [e, idxG_ext (addG_mem _ _), addG_idx]
        have hadd : addG ((List.range L.length).map g) (g (F.idxOf h.2.2.2)) = (List.range (addG L h.2.2.2).length).map g := by
          by_cases hm : h.2.2.2 ∈ L
          · have hlt : L.idxOf h.2.2.2 < L.length := (el_idxG hm).1
            rw [addG_old hm, addG_old]
            rw [hidx]
            exact List.mem_map.2 ⟨_, List.mem_range.2 hlt, rfl⟩
          · rw [addG_new hm, addG_new]
            · rw [hidx, idxG_new hm, List.length_append, List.length_singleton, List.range_succ, List.map_append]
              rfl
            · rw [hidx, idxG_new hm]
              intro hc
              obtain ⟨i, hi, e⟩ := List.mem_map.1 hc
              have := hg _ _ e
              rw [List.mem_range] at hi
              omega
        have hix2 : ((List.range L.length).map g).idxOf (g (F.idxOf h.2.2.2)) = L.idxOf h.2.2.2 := by
          have hnd2 : ((List.range (addG L h.2.2.2).length).map g).Nodup := by
            rw [List.nodup_iff_pairwise_ne, List.pairwise_map]
            exact List.nodup_range.imp fun {a b} hab e => hab (hg _ _ e)
          have h1 : L.idxOf h.2.2.2 < (addG L h.2.2.2).length := by
            have h2 := (el_idxG (addG_mem L h.2.2.2)).1
            rwa [addG_idx] at h2
          have h3 := idxG_el hnd2 (k := L.idxOf h.2.2.2) (by simpa using h1)
          have h4 : el ((List.range (addG L h.2.2.2).length).map g) (L.idxOf h.2.2.2) = g (L.idxOf h.2.2.2) := el_range_map _ h1
          rw [h4] at h3
          rw [← addG_idx, hadd, hidx]
          exact h3
        rw [hadd, if_neg (by simpa using c2), ih _ _ hFL h0 hE]
        simp only [arcG, hix2]
/-- A machine that was numbered, numbered again: it stays as it is. -/
theorem numS_again (hg : ∀ i j, g i = g j → i = j) {F : List α} {X : List St} {s0 : α} (hX : ExpI fin hops s0 F.length F X) (hfin : ∀ i, i < F.length → fin' (g i) = ((el X i).1, 0)) (hhop : ∀ i, i < F.length → hops' (g i) = (el X i).2.map fun a => (a.1, a.2.1, a.2.2.1, g a.2.2.2.toNat)) :
    ∀ (k q : Nat) (L : List α) (S : List St) (n : Nat) (x : Mc), ExpI fin hops s0 q L S → (∃ E, F = L ++ E) → numS fin hops k q L S n = (x, 0) → x.2 = X → numS fin' hops' k q ((List.range L.length).map g) S n = (x, 0) := by
  intro k
  induction k with
  | zero => intro q L S n x _ _ e _; simp only [numS, Prod.mk.injEq] at e; exact absurd e.2 (by decide)
  | succ k ih =>
    intro q L S n x h hF e hx
    simp only [numS] at e ⊢
    by_cases hq : q < L.length
    · rw [if_pos hq] at e
      rw [if_pos (by simpa using hq)]
      by_cases he : (fin (el L q)).2 = 0
      · rw [if_neg (fun k => k he)] at e
        by_cases h0 : (numH (hops (el L q)) L n).1 = 0
        · rw [if_neg (fun k => k h0)] at e
          obtain ⟨E, eF⟩ := hF
          have hqF : q < F.length := by rw [eF, List.length_append]; omega
          have elq : el F q = el L q := by rw [eF]; exact el_appendL hq
          have eg : el ((List.range L.length).map g) q = g q := el_range_map _ hq
          -- where the run ends
          have hst := h.step hq he h0
          obtain ⟨_, L', ⟨D, eD⟩, hL'⟩ := numS_done _ _ _ _ _ _ hst e
          rw [hx] at hL'
          have hLF : L' = F := by
            refine el_ext ?_ fun i hi => ?_
            · have := hL'.len; have := hX.len; omega
            · have hlen : L'.length = F.length := by have := hL'.len; have := hX.len; omega
              -- by what leads there
              induction i using Nat.strongRecOn with
              | _ i ihi =>
                by_cases h0i : i = 0
                · subst h0i
                  rw [hL'.zero.2.1, hX.zero.2.1]
                · obtain ⟨j, kk, g1, g2, g3, g4⟩ := hL'.led i (by omega) hi
                  have e1 := ihi j g1 (by omega)
                  have s1 := hL'.sts j (by omega)
                  have s2 := hX.sts j (by omega)
                  rw [s1] at s2
                  rw [e1] at g3 s2
                  have s3 : (hops (el F j)).map (arcG L') = (hops (el F j)).map (arcG F) := (Prod.mk.inj s2).2
                  have s4 : arcG L' kk = arcG F kk := List.map_inj_left.1 s3 kk g3
                  have s5 : L'.idxOf kk.2.2.2 = F.idxOf kk.2.2.2 := by
                    have := (Prod.mk.inj (Prod.mk.inj (Prod.mk.inj s4).2).2).2
                    omega
                  rw [g4, idxG_el hL'.nodup hi] at s5
                  have hin := hX.shut j (by omega) kk g3
                  rw [g4] at hin
                  have h7 := (el_idxG hin).2
                  rw [← s5] at h7
                  exact h7.symm
          have hF2 : ∃ E, F = (numH (hops (el L q)) L n).2.1 ++ E := ⟨D, by rw [← hLF]; exact eD⟩
          rw [eg, hfin q hqF]
          simp only
          rw [if_neg (fun k => k rfl), hhop q hqF, hX.sts q hqF, elq]
          simp only [List.map_map]
          have e9 : (hops (el L q)).map ((fun a : Ar => (a.1, a.2.1, a.2.2.1, g a.2.2.2.toNat)) ∘ arcG F) = (hops (el L q)).map fun h => (h.1, h.2.1, h.2.2.1, g (F.idxOf h.2.2.2)) := List.map_congr_left fun h _ => by simp [arcG]
          rw [e9, numH_again hg hX.nodup (hops (el L q)) L n ⟨E, eF⟩ h0 hF2]
          simp only
          rw [if_neg (fun k => k rfl), List.length_map]
          have := ih _ _ _ _ _ hst hF2 e hx
          have e10 : (fin (el L q)).1 = (fin (el L q)).1 := rfl
          exact this
        · rw [if_pos h0] at e
          simp only [Prod.mk.injEq] at e
          exact absurd e.2 h0
      · rw [if_pos he] at e
        simp only [Prod.mk.injEq] at e
        exact absurd e.2 he
    · rw [if_neg hq] at e
      rw [if_neg (by simpa using hq)]
      exact e
theorem numA_again (hg : ∀ i j, g i = g j → i = j) {F : List α} {x : Mc} {s0 : α} (hx : numA fin hops s0 = (x, 0)) (hX : ExpI fin hops s0 F.length F x.2) (hfin : ∀ i, i < F.length → fin' (g i) = ((el x.2 i).1, 0)) (hhop : ∀ i, i < F.length → hops' (g i) = (el x.2 i).2.map fun a => (a.1, a.2.1, a.2.2.1, g a.2.2.2.toNat)) :
    numA fin' hops' (g 0) = (x, 0) := by
  obtain ⟨E, e⟩ := hX.start
  exact numS_again hg hX hfin hhop _ _ _ _ _ _ (ExpI.init fin hops s0) ⟨E, e⟩ hx rfl
end
end Go.Proofs.YtfekmlblldhieaaDoor.Pl
namespace Go.Proofs.YtfekmlblldhieaaDoor.Pl
set_option linter.unusedVariables false
set_option linter.unusedSimpArgs false
theorem drop_el {α : Type} [Inhabited α] {hs : List (Hg α)} {i : Nat} (h : i < hs.length) : hs.drop i = el hs i :: hs.drop (i + 1) := by
  rw [List.drop_eq_getElem_cons h, el_get h]
section
variable {α : Type} [DecidableEq α] [Inhabited α]
/-- All that are numbered, the arcs, behind the first i hops. -/
def hpL (hs : List (Hg α)) (L : List α) : Nat → List α
  | 0 => L
  | i + 1 => addG (hpL hs L i) (el hs i).2.2.2
def hpA (hs : List (Hg α)) (L : List α) : Nat → List Ar
  | 0 => []
  | i + 1 => hpA hs L i ++ [arcG (hpL hs L i) (el hs i)]
theorem hpA_len (hs : List (Hg α)) (L : List α) : ∀ i, (hpA hs L i).length = i
  | 0 => rfl
  | i + 1 => by simp [hpA, hpA_len hs L i]
theorem hpL_nodup {hs : List (Hg α)} {L : List α} (h : L.Nodup) : ∀ i, (hpL hs L i).Nodup
  | 0 => h
  | i + 1 => addG_nodup (hpL_nodup h i) _
/-- So far nothing is wrong. -/
def Fine (hs : List (Hg α)) (L : List α) (n i : Nat) : Prop := ∀ j, j < i → (el hs j).2.2.1 ≤ 1000000000 ∧ n + (j + 1) ≤ 400 ∧ (hpL hs L (j + 1)).length ≤ 60
theorem numH_at {hs : List (Hg α)} {L : List α} {n : Nat} : ∀ {i : Nat}, i ≤ hs.length → Fine hs L n i → numH hs L n = ((numH (hs.drop i) (hpL hs L i) (n + i)).1, (numH (hs.drop i) (hpL hs L i) (n + i)).2.1, hpA hs L i ++ (numH (hs.drop i) (hpL hs L i) (n + i)).2.2) := by
  intro i
  induction i with
  | zero => intro _ _; simp [hpL, hpA]
  | succ i ih =>
    intro hi hf
    obtain ⟨h1, h2, h3⟩ := hf i (Nat.lt_succ_self _)
    rw [ih (by omega) (fun j hj => hf j (by omega)), drop_el (by omega)]
    simp only [numH]
    have h3' : (addG (hpL hs L i) (el hs i).2.2.2).length ≤ 60 := h3
    rw [if_neg (by omega), if_neg (by omega)]
    simp only [hpL, hpA, List.append_assoc, List.singleton_append, Nat.add_assoc]
variable {fin : α → Int × Int} {hops : α → List (Hg α)} {s0 : α}
/-- So far; what is still to come is what is answered. -/
structure NumI (fin : α → Int × Int) (hops : α → List (Hg α)) (s0 : α) (q : Nat) (L : List α) (S : List St) (n : Nat) : Prop where
  nodup : L.Nodup
  le : q ≤ L.length
  l60 : L.length ≤ 60
  n4 : n ≤ 400
  len : S.length = q
  exp : ExpI fin hops s0 q L S
  ans : numA fin hops s0 = numS fin hops (61 - q) q L S n
theorem NumI.init (fin : α → Int × Int) (hops : α → List (Hg α)) (s0 : α) : NumI fin hops s0 0 [s0] [] 0 := ⟨by simp, by simp, by simp, by omega, rfl, ExpI.init _ _ _, rfl⟩
variable {q : Nat} {L : List α} {S : List St} {n : Nat}
theorem NumI.stop (h : NumI fin hops s0 q L S n) (hq : ¬ q < L.length) : numA fin hops s0 = ((0, S), 0) := by
  have h1 := h.le
  have h2 := h.l60
  rw [h.ans, show 61 - q = (60 - q) + 1 by omega]
  simp only [numS]
  rw [if_neg hq]
theorem NumI.err (h : NumI fin hops s0 q L S n) (hq : q < L.length) (he : (fin (el L q)).2 ≠ 0) : numA fin hops s0 = ((0, []), (fin (el L q)).2) := by
  have h2 := h.l60
  rw [h.ans, show 61 - q = (60 - q) + 1 by omega]
  simp only [numS]
  rw [if_pos hq, if_pos he]
theorem NumI.bad (h : NumI fin hops s0 q L S n) (hq : q < L.length) (he : (fin (el L q)).2 = 0) {ec : Int} (h0 : ec ≠ 0) (hn : (numH (hops (el L q)) L n).1 = ec) : numA fin hops s0 = ((0, []), ec) := by
  have h2 := h.l60
  rw [h.ans, show 61 - q = (60 - q) + 1 by omega]
  simp only [numS]
  rw [if_pos hq, if_neg (fun g => g he), hn, if_pos h0]
theorem NumI.over (h : NumI fin hops s0 q L S n) (hq : q < L.length) (he : (fin (el L q)).2 = 0) {i : Nat} (hi : i < (hops (el L q)).length) (hf : Fine (hops (el L q)) L n i) (ho : 1000000000 < (el (hops (el L q)) i).2.2.1) : numA fin hops s0 = ((0, []), 4) := by
  refine h.bad hq he (by decide) ?_
  rw [numH_at (by omega) hf, drop_el hi]
  simp only [numH]
  rw [if_pos ho]
theorem NumI.full (h : NumI fin hops s0 q L S n) (hq : q < L.length) (he : (fin (el L q)).2 = 0) {i : Nat} (hi : i < (hops (el L q)).length) (hf : Fine (hops (el L q)) L n i) (ho : (el (hops (el L q)) i).2.2.1 ≤ 1000000000) (hx : 400 < n + (i + 1) ∨ 60 < (hpL (hops (el L q)) L (i + 1)).length) : numA fin hops s0 = ((0, []), 5) := by
  refine h.bad hq he (by decide) ?_
  rw [numH_at (by omega) hf, drop_el hi]
  simp only [numH]
  rw [if_neg (by omega), if_pos (by simpa [hpL, Nat.add_assoc] using hx)]
theorem NumI.next (h : NumI fin hops s0 q L S n) (hq : q < L.length) (he : (fin (el L q)).2 = 0) (hf : Fine (hops (el L q)) L n (hops (el L q)).length) :
    NumI fin hops s0 (q + 1) (hpL (hops (el L q)) L (hops (el L q)).length) (S ++ [((fin (el L q)).1, hpA (hops (el L q)) L (hops (el L q)).length)]) (n + (hops (el L q)).length) := by
  have h2 := h.l60
  have e := numH_at (Nat.le_refl _) hf
  rw [List.drop_length] at e
  simp only [numH, List.append_nil] at e
  have e0 : (numH (hops (el L q)) L n).1 = 0 := by rw [e]
  have hs := h.exp.step hq he e0
  rw [e] at hs
  simp only at hs
  have hn : n + (hops (el L q)).length ≤ 400 := by
    have h4 := h.n4
    cases hl : (hops (el L q)).length with
    | zero => omega
    | succ k => have := (hf k (by omega)).2.1; omega
  refine ⟨hs.nodup, hs.le, hs.l60, hn, hs.len, hs, ?_⟩
  rw [h.ans, show 61 - q = (60 - q) + 1 by omega, show 61 - (q + 1) = 60 - q by omega]
  conv => lhs; simp only [numS]
  rw [if_pos hq, if_neg (fun g => g he), if_neg (fun g => g e0), e]
/-- Where one was found among the first k. -/
def fndG (L : List α) (t : α) : Nat → Int
  | 0 => -1
  | k + 1 => if el L k = t then (k : Int) else fndG L t k
theorem fndG_rng (L : List α) (t : α) : ∀ k, -1 ≤ fndG L t k ∧ fndG L t k ≤ (k : Int)
  | 0 => ⟨by simp [fndG], by simp [fndG]⟩
  | k + 1 => by
    have := fndG_rng L t k
    simp only [fndG]
    split <;> omega
theorem fndG_all {L : List α} (hn : L.Nodup) (t : α) : ∀ k, k ≤ L.length → (∃ j, j < k ∧ el L j = t ∧ fndG L t k = (j : Int)) ∨ ((∀ j, j < k → el L j ≠ t) ∧ fndG L t k = -1)
  | 0, _ => .inr ⟨fun j hj => absurd hj (by omega), rfl⟩
  | k + 1, h => by
    simp only [fndG]
    by_cases e : el L k = t
    · rw [if_pos e]
      exact .inl ⟨k, by omega, e, rfl⟩
    · rw [if_neg e]
      rcases fndG_all hn t k (by omega) with ⟨j, h1, h2, h3⟩ | ⟨h1, h2⟩
      · exact .inl ⟨j, by omega, h2, h3⟩
      · refine .inr ⟨fun j hj => ?_, h2⟩
        by_cases g : j = k
        · rw [g]; exact e
        · exact h1 j (by omega)
/-- What is found, what is added. -/
theorem fndG_old {L : List α} (hn : L.Nodup) {t : α} (h : t ∈ L) : fndG L t L.length = (L.idxOf t : Int) ∧ addG L t = L := by
  obtain ⟨g1, g2⟩ := el_idxG h
  refine ⟨?_, addG_old h⟩
  rcases fndG_all hn t L.length (Nat.le_refl _) with ⟨j, h1, h2, h3⟩ | ⟨h1, _⟩
  · have := idxG_el hn h1
    rw [h2] at this
    rw [h3, this]
  · exact absurd g2 (h1 _ g1)
theorem fndG_new {L : List α} (hn : L.Nodup) {t : α} (h : t ∉ L) : fndG L t L.length = -1 ∧ addG L t = L ++ [t] ∧ L.idxOf t = L.length := by
  refine ⟨?_, addG_new h, idxG_new h⟩
  rcases fndG_all hn t L.length (Nat.le_refl _) with ⟨j, h1, h2, h3⟩ | ⟨_, h2⟩
  · exact absurd (by rw [← h2]; exact el_mem h1) h
  · exact h2
end
end Go.Proofs.YtfekmlblldhieaaDoor.Pl
