/- A heap of ways (four numbers, the last one the cost), the cheapest one first: what goes up, what goes down (no program in sight). The cheapest ways first: places that are done, ways that wait (no program in sight). The cheapest at the words' ends, state by state; a machine that writes nothing (no program in sight). Along an arc: where it leads from a place, or nowhere (no program in sight). What is wrong with words, one behind the other (no program in sight). What is answered of a machine and words, wrong ones too (no program in sight). -/
import Derived.Test.YtfekmlblldhieaaGreatDoorPlainK
import Derived.Test.YtfekmlblldhieaaGreatDoorJ17a
namespace Go.Proofs.YtfekmlblldhieaaGreatDoor.Pl
/-- Two places exchanged. -/
def swpW (l : List Ar) (i j : Nat) : List Ar := (l.set i (el l j)).set j (el l i)
theorem swpW_length (l : List Ar) (i j : Nat) : (swpW l i j).length = l.length := by simp [swpW]
theorem el_setW {l : List Ar} {q j : Nat} (hq : q < l.length) (x : Ar) : el (l.set q x) j = if j = q then x else el l j := by
  by_cases h : j = q
  · subst h; rw [if_pos rfl, el_get (by simpa using hq)]; simp
  · rw [if_neg h]; simp [el, List.getElem?_set_ne (Ne.symm h)]
theorem el_swpW {l : List Ar} {i j : Nat} (hi : i < l.length) (hj : j < l.length) (k : Nat) : el (swpW l i j) k = if k = j then el l i else if k = i then el l j else el l k := by
  unfold swpW
  rw [el_setW (by simpa using hj), el_setW hi]
theorem swpW_perm {l : List Ar} {i j : Nat} (hi : i < l.length) (hj : j < l.length) : (swpW l i j).Perm l := by
  have h := Array.swap_perm (xs := l.toArray) (i := i) (j := j) (by simpa using hi) (by simpa using hj)
  rw [Array.perm_iff_toList_perm] at h
  have e : (l.toArray.swap i j (by simpa using hi) (by simpa using hj)).toList = swpW l i j := by
    unfold swpW
    rw [el_get hi, el_get hj]
    simp [Array.swap]
  rw [e] at h
  exact h
theorem swpW_drop {l : List Ar} {i j n : Nat} (hi : i < n) (hj : j < n) : (swpW l i j).drop n = l.drop n := by
  unfold swpW
  rw [List.drop_set_of_lt (by omega), List.drop_set_of_lt (by omega)]
/-- Of the first n ones none is less than the one above it. -/
def HeapW (l : List Ar) (n : Nat) : Prop := ∀ k, 0 < k → k < n → (el l ((k - 1) / 2)).2.2.2 ≤ (el l k).2.2.2
theorem HeapW.nil : HeapW [] 0 := fun _ _ h => absurd h (Nat.not_lt_zero _)
theorem HeapW.root {l : List Ar} {n : Nat} (h : HeapW l n) : ∀ k, k < n → (el l 0).2.2.2 ≤ (el l k).2.2.2 := by
  intro k
  induction k using Nat.strongRecOn with
  | ind k ih =>
    intro hk
    by_cases e : k = 0
    · subst e; exact Int.le_refl _
    · have h1 := h k (by omega) hk
      have h2 := ih ((k - 1) / 2) (by omega) (by omega)
      omega
theorem HeapW.left {l r : List Ar} {n : Nat} (h : HeapW (l ++ r) n) (hn : n ≤ l.length) : HeapW l n := by
  intro k h0 hk
  have := h k h0 hk
  rwa [el_left (by omega), el_left (by omega)] at this
/-- A heap but for what stands at j, which may be too low. -/
def UpW (l : List Ar) (j : Nat) : Prop := ∀ k, 0 < k → k < l.length → (k ≠ j → (el l ((k - 1) / 2)).2.2.2 ≤ (el l k).2.2.2) ∧ (0 < j → (k - 1) / 2 = j → (el l ((j - 1) / 2)).2.2.2 ≤ (el l k).2.2.2)
theorem UpW.start {l : List Ar} (h : HeapW l l.length) (x : Ar) : UpW (l ++ [x]) l.length := by
  intro k h0 hk
  have hk' : k < l.length + 1 := by simpa using hk
  constructor
  · intro hne
    rw [el_left (by omega), el_left (by omega)]
    exact h k h0 (by omega)
  · intro h1 h2; omega
theorem UpW.swap {l : List Ar} {j : Nat} (h : UpW l j) (h0 : 0 < j) (hj : j < l.length) (hlt : (el l j).2.2.2 < (el l ((j - 1) / 2)).2.2.2) : UpW (swpW l ((j - 1) / 2) j) ((j - 1) / 2) := by
  generalize hi : (j - 1) / 2 = i at *
  have hij : i < j := by omega
  intro k hk0 hk
  rw [swpW_length] at hk
  have hjj := h j h0 hj
  have hkk := h k hk0 hk
  have e := fun p => el_swpW (l := l) (i := i) (j := j) (by omega) hj p
  constructor
  · intro hki
    rw [e k, if_neg hki, e ((k - 1) / 2)]
    by_cases c1 : k = j
    · subst c1
      rw [if_pos rfl, hi, if_neg (by omega), if_pos rfl]
      omega
    · rw [if_neg c1]
      have h1 := hkk.1 c1
      by_cases c2 : (k - 1) / 2 = j
      · rw [if_pos c2]
        have := hkk.2 h0 c2
        rw [hi] at this
        exact this
      · rw [if_neg c2]
        by_cases c3 : (k - 1) / 2 = i
        · rw [if_pos c3]
          rw [c3] at h1
          omega
        · rw [if_neg c3]; exact h1
  · intro hi0 hki
    have hpi : (i - 1) / 2 < i := by omega
    rw [e ((i - 1) / 2), if_neg (by omega), if_neg (by omega), e k]
    have h1 := (h i hi0 (by omega)).1 (by omega)
    by_cases c1 : k = j
    · rw [if_pos c1]; exact h1
    · rw [if_neg c1, if_neg (by omega)]
      have h2 := hkk.1 c1
      rw [hki] at h2
      omega
theorem UpW.top {l : List Ar} (h : UpW l 0) : HeapW l l.length := fun k h0 hk => (h k h0 hk).1 (by omega)
theorem UpW.stop {l : List Ar} {j : Nat} (h : UpW l j) (hle : ¬ (el l j).2.2.2 < (el l ((j - 1) / 2)).2.2.2) : HeapW l l.length := by
  intro k h0 hk
  by_cases c : k = j
  · subst c; omega
  · exact (h k h0 hk).1 c
/-- The first n are a heap but for what stands at i, which may be too high. -/
def DownW (l : List Ar) (i n : Nat) : Prop := ∀ k, 0 < k → k < n → ((k - 1) / 2 ≠ i → (el l ((k - 1) / 2)).2.2.2 ≤ (el l k).2.2.2) ∧ (0 < i → (k - 1) / 2 = i → (el l ((i - 1) / 2)).2.2.2 ≤ (el l k).2.2.2)
theorem DownW.start {l : List Ar} {n : Nat} (h : HeapW l l.length) (hn : l.length = n + 1) : DownW (swpW l 0 n) 0 n := by
  intro k h0 hk
  have e := fun p => el_swpW (l := l) (i := 0) (j := n) (by omega) (by omega) p
  constructor
  · intro hne
    rw [e, e k, if_neg (by omega), if_neg (by omega), if_neg (by omega), if_neg (by omega)]
    exact h k h0 (by omega)
  · intro h1; omega
/-- c: the lesser one of those below i. -/
def LowW (l : List Ar) (i n c : Nat) : Prop := c < n ∧ 0 < c ∧ (c - 1) / 2 = i ∧ ∀ k, 0 < k → k < n → (k - 1) / 2 = i → (el l c).2.2.2 ≤ (el l k).2.2.2
theorem LowW.left {l : List Ar} {i n : Nat} (h1 : 2 * i + 1 < n) (h2 : 2 * i + 1 + 1 < n → ¬ (el l (2 * i + 1 + 1)).2.2.2 < (el l (2 * i + 1)).2.2.2) : LowW l i n (2 * i + 1) := by
  refine ⟨h1, by omega, by omega, fun k k0 hk hp => ?_⟩
  have : k = 2 * i + 1 ∨ k = 2 * i + 1 + 1 := by omega
  rcases this with rfl | rfl
  · exact Int.le_refl _
  · have := h2 hk; omega
theorem LowW.right {l : List Ar} {i n : Nat} (h1 : 2 * i + 1 + 1 < n) (h2 : (el l (2 * i + 1 + 1)).2.2.2 < (el l (2 * i + 1)).2.2.2) : LowW l i n (2 * i + 1 + 1) := by
  refine ⟨h1, by omega, by omega, fun k k0 hk hp => ?_⟩
  have : k = 2 * i + 1 ∨ k = 2 * i + 1 + 1 := by omega
  rcases this with rfl | rfl
  · omega
  · exact Int.le_refl _
theorem DownW.swap {l : List Ar} {i n c : Nat} (h : DownW l i n) (hn : n ≤ l.length) (hc : LowW l i n c) (hlt : (el l c).2.2.2 < (el l i).2.2.2) : DownW (swpW l i c) c n := by
  obtain ⟨hcn, hc0, hci, hmin⟩ := hc
  have hic : i < c := by omega
  intro k hk0 hk
  have e := fun p => el_swpW (l := l) (i := i) (j := c) (by omega) (by omega) p
  constructor
  · intro hkc
    rw [e ((k - 1) / 2), if_neg hkc, e k]
    by_cases c3 : (k - 1) / 2 = i
    · rw [if_pos c3]
      by_cases c1 : k = c
      · rw [if_pos c1]; omega
      · rw [if_neg c1, if_neg (by omega)]
        exact hmin k hk0 hk c3
    · rw [if_neg c3]
      have h1 := (h k hk0 hk).1 c3
      by_cases c1 : k = c
      · subst c1; exact absurd hci c3
      · rw [if_neg c1]
        by_cases c2 : k = i
        · subst c2
          rw [if_pos rfl]
          exact (h c hc0 hcn).2 hk0 hci
        · rw [if_neg c2]; exact h1
  · intro _ hkc
    rw [hci, e i, if_neg (by omega), if_pos rfl, e k, if_neg (by omega), if_neg (by omega)]
    have h1 := (h k hk0 hk).1 (by omega)
    rw [hkc] at h1
    exact h1
theorem DownW.leaf {l : List Ar} {i n : Nat} (h : DownW l i n) (hl : n ≤ 2 * i + 1) : HeapW l n := fun k h0 hk => (h k h0 hk).1 (by omega)
theorem DownW.stop {l : List Ar} {i n c : Nat} (h : DownW l i n) (hc : LowW l i n c) (hle : ¬ (el l c).2.2.2 < (el l i).2.2.2) : HeapW l n := by
  intro k h0 hk
  by_cases e : (k - 1) / 2 = i
  · have := hc.2.2.2 k h0 hk e
    rw [e]; omega
  · exact (h k h0 hk).1 e
/-- The least one taken out. -/
theorem popW_facts {l m : List Ar} {n : Nat} (h : HeapW l l.length) (hn : l.length = n + 1) (hp : m.Perm (swpW l 0 n)) (hd : m.drop n = (swpW l 0 n).drop n) (hm : HeapW m n) :
    el m n = el l 0 ∧ HeapW (m.take n) n ∧ (el l 0 :: m.take n).Perm l ∧ ∀ y ∈ m.take n, (el l 0).2.2.2 ≤ y.2.2.2 := by
  have hml : m.length = n + 1 := by rw [hp.length_eq, swpW_length, hn]
  have h1 : el m n = el l 0 := by
    have e1 : el (m.drop n) 0 = el m n := by simp [el]
    have e2 : el ((swpW l 0 n).drop n) 0 = el (swpW l 0 n) n := by simp [el]
    rw [← e1, hd, e2, el_swpW (by omega) (by omega), if_pos rfl]
  have h2 : m = m.take n ++ [el l 0] := by
    have := take_el (l := m) (k := n) (by omega)
    rw [List.take_of_length_le (by omega), h1] at this
    exact this
  have h3 : (el l 0 :: m.take n).Perm l := by
    have h4 : m.Perm l := hp.trans (swpW_perm (by omega) (by omega))
    rw [h2] at h4
    exact (List.perm_append_singleton _ _).symm.trans h4
  refine ⟨h1, ?_, h3, fun y hy => ?_⟩
  · intro k h0 hk
    rw [el_take (by omega), el_take hk]
    exact hm k h0 hk
  · have : y ∈ l := h3.mem_iff.1 (List.mem_cons_of_mem _ hy)
    obtain ⟨k, hk, rfl⟩ := mem_el this
    exact h.root k hk
end Go.Proofs.YtfekmlblldhieaaGreatDoor.Pl
namespace Go.Proofs.YtfekmlblldhieaaGreatDoor.Pl
set_option linter.unusedVariables false
set_option linter.unusedSimpArgs false
/-- A state, how much of each word is done. -/
abbrev Pt := Nat × Nat × Nat
/-- A way to a place. -/
def wyV (p : Pt) (c : Nat) : Ar := ((p.1 : Int), (p.2.1 : Int), (p.2.2 : Int), (c : Int))
theorem wyV_one {p q : Pt} {c d : Nat} (h : wyV p c = wyV q d) : p = q ∧ c = d := by
  obtain ⟨a, b, e⟩ := p
  obtain ⟨a', b', e'⟩ := q
  simp only [wyV, Prod.mk.injEq] at h
  obtain ⟨h1, h2, h3, h4⟩ := h
  refine ⟨?_, by omega⟩
  simp only [Prod.mk.injEq]
  omega
/-- The i-th arc of q's state leads from q to p. -/
def ToP (l : List St) (x y : List Int) (q : Pt) (i : Nat) (p : Pt) : Prop :=
  i < (el l q.1).2.length ∧ (el (el l q.1).2 i).2.2.2 = (p.1 : Int) ∧ fitN x q.2.1 (el (el l q.1).2 i).1 = some p.2.1 ∧ fitN y q.2.2 (el (el l q.1).2 i).2.1 = some p.2.2
def wtP (l : List St) (q : Pt) (i : Nat) : Nat := (el (el l q.1).2 i).2.2.1.toNat
theorem ToP.one {l : List St} {x y : List Int} {q : Pt} {i : Nat} {p p' : Pt} (h : ToP l x y q i p) (k : ToP l x y q i p') : p = p' := by
  obtain ⟨a, b, e⟩ := p
  obtain ⟨a', b', e'⟩ := p'
  obtain ⟨_, h1, h2, h3⟩ := h
  obtain ⟨_, k1, k2, k3⟩ := k
  simp only at h1 h2 h3 k1 k2 k3
  rw [h2] at k2
  rw [h3] at k3
  injection k2 with k2
  injection k3 with k3
  simp only [Prod.mk.injEq]
  omega
/-- What can be had from z on, for how much. -/
inductive Rch (l : List St) (x y : List Int) (z : Nat) : Pt → Nat → Prop
  | nil : Rch l x y z (z, 0, 0) 0
  | step {q p : Pt} {c i : Nat} (h : Rch l x y z q c) (hi : i < (el l q.1).2.length) (e : ToP l x y q i p) : Rch l x y z p (c + wtP l q i)
def InP (l : List St) (x y : List Int) (p : Pt) : Prop := p.1 < l.length ∧ p.2.1 ≤ x.length ∧ p.2.2 ≤ y.length
def ToL (l : List St) : Prop := ∀ q, q < l.length → ∀ a ∈ (el l q).2, (∃ t : Nat, a.2.2.2 = (t : Int) ∧ t < l.length) ∧ 0 ≤ a.2.2.1 ∧ a.2.2.1 ≤ 1000000000
theorem ToP.inside {l : List St} {x y : List Int} (hto : ToL l) {q p : Pt} {i : Nat} (hq : InP l x y q) (e : ToP l x y q i p) : InP l x y p ∧ wtP l q i ≤ 1000000000 := by
  obtain ⟨hi, h1, h2, h3⟩ := e
  obtain ⟨⟨t, e1, e2⟩, _, e3⟩ := hto _ hq.1 _ (el_mem hi)
  rw [h1] at e1
  refine ⟨⟨by omega, fitN_le h2 hq.2.1, fitN_le h3 hq.2.2⟩, ?_⟩
  unfold wtP
  omega
theorem Rch.inside {l : List St} {x y : List Int} {z : Nat} (hto : ToL l) (hz : z < l.length) {p : Pt} {c : Nat} (h : Rch l x y z p c) : InP l x y p := by
  induction h with
  | nil => exact ⟨hz, Nat.zero_le _, Nat.zero_le _⟩
  | step h hi e ih => exact (e.inside hto ih).1
theorem Rch.way {l : List St} {x y : List Int} {z : Nat} (hto : ToL l) (hz : z < l.length) {p : Pt} {c : Nat} (h : Rch l x y z p c) : Way l z (x.take p.2.1) (y.take p.2.2) p.1 c := by
  induction h with
  | nil => simpa using Way.nil
  | step h hi e ih =>
    obtain ⟨_, h1, h2, h3⟩ := e
    rw [fitN_take h2, fitN_take h3]
    exact ih.snoc (el_mem hi) h1
theorem way_rch {l : List St} {x y : List Int} {z q c : Nat} {u v : List Int} (h : Way l z u v q c) :
    ∀ i j, i ≤ x.length → j ≤ y.length → u = x.take i → v = y.take j → Rch l x y z (q, i, j) c := by
  induction h with
  | nil =>
    intro i j hi hj hu hv
    have h1 : i = 0 := by
      have := congrArg List.length hu
      simp at this; omega
    have h2 : j = 0 := by
      have := congrArg List.length hv
      simp at this; omega
    subst h1; subst h2
    exact .nil
  | snoc h ha ht ih =>
    intro i j hi hj hu hv
    obtain ⟨i0, hi0, hu0, f1⟩ := take_fitN hi hu
    obtain ⟨j0, hj0, hv0, f2⟩ := take_fitN hj hv
    obtain ⟨k, hk, rfl⟩ := mem_el ha
    exact Rch.step (q := (_, i0, j0)) (i := k) (ih i0 j0 hi0 hj0 hu0 hv0) hk ⟨hk, ht, f1, f2⟩
theorem rch_iff {l : List St} {x y : List Int} {z q c : Nat} (hto : ToL l) (hz : z < l.length) : Rch l x y z (q, x.length, y.length) c ↔ Way l z x y q c :=
  ⟨fun h => by simpa using h.way hto hz, fun h => way_rch h _ _ (Nat.le_refl _) (Nat.le_refl _) (by simp) (by simp)⟩
/-- Done places, ways that wait; O: arcs that are still to be looked at; b: no done place costs more, no way that waits costs less. -/
structure Dij (l : List St) (x y : List Int) (z : Nat) (ds : List (Pt × Nat)) (H : List Ar) (O : Pt → Nat → Prop) (b : Nat) : Prop where
  nd : (ds.map Prod.fst).Nodup
  heap : ∀ h ∈ H, ∃ p c, h = wyV p c ∧ Rch l x y z p c ∧ b ≤ c ∧ c ≤ ds.length * 1000000000
  done : ∀ p c, (p, c) ∈ ds → Rch l x y z p c ∧ c ≤ b ∧ c + 1000000000 ≤ ds.length * 1000000000
  clos : ∀ q c, (q, c) ∈ ds → ∀ i p, ToP l x y q i p → ¬ O q i → (∃ e, (p, e) ∈ ds ∧ e ≤ c + wtP l q i) ∨ wyV p (c + wtP l q i) ∈ H
  beg : ((z, 0, 0), 0) ∈ ds ∨ wyV (z, 0, 0) 0 ∈ H
theorem nodup_one {ds : List (Pt × Nat)} (h : (ds.map Prod.fst).Nodup) {p : Pt} {c d : Nat} (h1 : (p, c) ∈ ds) (h2 : (p, d) ∈ ds) : c = d := by
  induction ds with
  | nil => cases h1
  | cons a ds ih =>
    rw [List.map_cons, List.nodup_cons] at h
    rcases List.mem_cons.1 h1 with e1 | e1 <;> rcases List.mem_cons.1 h2 with e2 | e2
    · rw [← e1] at e2; injection e2 with _ e2; exact e2.symm
    · exact absurd (List.mem_map.2 ⟨_, e2, by rw [← e1]⟩) h.1
    · exact absurd (List.mem_map.2 ⟨_, e1, by rw [← e2]⟩) h.1
    · exact ih h.2 e1 e2
theorem Dij.start {l : List St} {x y : List Int} {z : Nat} (O : Pt → Nat → Prop) : Dij l x y z [] [wyV (z, 0, 0) 0] O 0 :=
  ⟨List.nodup_nil, fun h hh => ⟨(z, 0, 0), 0, by simpa using hh, .nil, Nat.le_refl _, by simp⟩, fun p c h => (by cases h), fun q c h => (by cases h), .inr (by simp)⟩
/-- The cheapest way leads to a place that is done. -/
theorem Dij.old {l : List St} {x y : List Int} {z : Nat} {ds : List (Pt × Nat)} {H H' : List Ar} {b : Nat} (h : Dij l x y z ds H (fun _ _ => False) b) {p : Pt} {c d : Nat} (hp : (wyV p c :: H').Perm H) (hd : (p, d) ∈ ds) :
    Dij l x y z ds H' (fun _ _ => False) b := by
  have hsub : ∀ a ∈ H', a ∈ H := fun a ha => hp.mem_iff.1 (List.mem_cons_of_mem _ ha)
  obtain ⟨p', c', e0, _, hbc, _⟩ := h.heap (wyV p c) (hp.mem_iff.1 List.mem_cons_self)
  obtain ⟨rfl, rfl⟩ := wyV_one e0
  have hdc : d ≤ c := Nat.le_trans (h.done p d hd).2.1 hbc
  have split : ∀ {q : Pt} {e : Nat}, wyV q e ∈ H → (q = p ∧ e = c) ∨ wyV q e ∈ H' := fun {q e} hq => by
    rcases List.mem_cons.1 (hp.mem_iff.2 hq) with g | g
    · exact .inl (wyV_one g)
    · exact .inr g
  refine ⟨h.nd, fun a ha => h.heap a (hsub a ha), h.done, fun q e hq i p' ht hO => ?_, ?_⟩
  · rcases h.clos q e hq i p' ht hO with g | g
    · exact .inl g
    · rcases split g with ⟨rfl, g2⟩ | g
      · exact .inl ⟨d, hd, by omega⟩
      · exact .inr g
  · rcases h.beg with g | g
    · exact .inl g
    · rcases split g with ⟨g1, g2⟩ | g
      · rw [← g1] at hd
        obtain rfl : d = 0 := by omega
        exact .inl hd
      · exact .inr g
/-- The cheapest way leads to a new place. -/
theorem Dij.new {l : List St} {x y : List Int} {z : Nat} {ds : List (Pt × Nat)} {H H' : List Ar} {b : Nat} (h : Dij l x y z ds H (fun _ _ => False) b) {p : Pt} {c : Nat} (hp : (wyV p c :: H').Perm H) (hmin : ∀ a ∈ H', (c : Int) ≤ a.2.2.2) (hd : ∀ d, (p, d) ∉ ds) :
    Dij l x y z (ds ++ [(p, c)]) H' (fun q i => q = p ∧ 0 ≤ i) c := by
  have hsub : ∀ a ∈ H', a ∈ H := fun a ha => hp.mem_iff.1 (List.mem_cons_of_mem _ ha)
  obtain ⟨p', c', e0, hr, hbc, hcb⟩ := h.heap (wyV p c) (hp.mem_iff.1 List.mem_cons_self)
  obtain ⟨rfl, rfl⟩ := wyV_one e0
  have split : ∀ {q : Pt} {e : Nat}, wyV q e ∈ H → (q = p ∧ e = c) ∨ wyV q e ∈ H' := fun {q e} hq => by
    rcases List.mem_cons.1 (hp.mem_iff.2 hq) with g | g
    · exact .inl (wyV_one g)
    · exact .inr g
  have hlen : (ds ++ [(p, c)]).length * 1000000000 = ds.length * 1000000000 + 1000000000 := by rw [List.length_append, List.length_singleton, Nat.add_mul, Nat.one_mul]
  refine ⟨?_, fun a ha => ?_, fun q e hq => ?_, fun q e hq i p' ht hO => ?_, ?_⟩
  · rw [List.map_append, List.nodup_append]
    refine ⟨h.nd, by simp, fun q hq q' hq' => ?_⟩
    simp only [List.map_cons, List.map_nil, List.mem_singleton] at hq'
    subst hq'
    obtain ⟨⟨q0, e0⟩, h1, rfl⟩ := List.mem_map.1 hq
    intro e
    simp only at e
    subst e
    exact hd _ h1
  · obtain ⟨q, e, rfl, k1, k2, k3⟩ := h.heap a (hsub a ha)
    have := hmin _ ha
    simp only [wyV] at this
    exact ⟨q, e, rfl, k1, by omega, by rw [hlen]; exact Nat.le_trans k3 (Nat.le_add_right _ _)⟩
  · rcases List.mem_append.1 hq with g | g
    · obtain ⟨k1, k2, k3⟩ := h.done q e g
      exact ⟨k1, Nat.le_trans k2 hbc, by rw [hlen]; exact Nat.le_trans k3 (Nat.le_add_right _ _)⟩
    · simp only [List.mem_singleton, Prod.mk.injEq] at g
      obtain ⟨rfl, rfl⟩ := g
      exact ⟨hr, Nat.le_refl _, by rw [hlen]; exact Nat.add_le_add_right hcb _⟩
  · rcases List.mem_append.1 hq with g | g
    · rcases h.clos q e g i p' ht id with ⟨e', g1, g2⟩ | g1
      · exact .inl ⟨e', List.mem_append_left _ g1, g2⟩
      · rcases split g1 with ⟨rfl, g2⟩ | g2
        · exact .inl ⟨c, by simp, by omega⟩
        · exact .inr g2
    · simp only [List.mem_singleton, Prod.mk.injEq] at g
      obtain ⟨rfl, rfl⟩ := g
      exact absurd ⟨rfl, Nat.zero_le _⟩ hO
  · rcases h.beg with g | g
    · exact .inl (List.mem_append_left _ g)
    · rcases split g with ⟨g1, g2⟩ | g
      · left
        rw [g1, g2]
        simp
      · exact .inr g
/-- An arc of the new place that leads on. -/
theorem Dij.push {l : List St} {x y : List Int} {z : Nat} {ds : List (Pt × Nat)} {H H' : List Ar} {p : Pt} {c k : Nat} (hto : ToL l) (hz : z < l.length) (h : Dij l x y z ds H (fun q i => q = p ∧ k ≤ i) c) (hpc : (p, c) ∈ ds) {p' : Pt} (ht : ToP l x y p k p') (hp : H'.Perm (H ++ [wyV p' (c + wtP l p k)])) :
    Dij l x y z ds H' (fun q i => q = p ∧ k + 1 ≤ i) c := by
  obtain ⟨k1, k2, k3⟩ := h.done p c hpc
  have hmem : ∀ a, a ∈ H' ↔ a ∈ H ∨ a = wyV p' (c + wtP l p k) := fun a => by rw [hp.mem_iff, List.mem_append, List.mem_singleton]
  have hw := (ht.inside hto (k1.inside hto hz)).2
  refine ⟨h.nd, fun a ha => ?_, h.done, fun q e hq i r hr hO => ?_, ?_⟩
  · rcases (hmem a).1 ha with g | g
    · exact h.heap a g
    · exact ⟨_, _, g, k1.step ht.1 ht, by omega, by omega⟩
  · by_cases e1 : q = p ∧ k ≤ i
    · obtain ⟨rfl, e2⟩ := e1
      have e3 : i = k := by
        by_cases e4 : k + 1 ≤ i
        · exact absurd ⟨rfl, e4⟩ hO
        · omega
      subst e3
      have e5 := hr.one ht
      subst e5
      have e6 := nodup_one h.nd hq hpc
      subst e6
      exact .inr ((hmem _).2 (.inr rfl))
    · rcases h.clos q e hq i r hr e1 with g | g
      · exact .inl g
      · exact .inr ((hmem _).2 (.inl g))
  · rcases h.beg with g | g
    · exact .inl g
    · exact .inr ((hmem _).2 (.inl g))
/-- One that does not. -/
theorem Dij.skip {l : List St} {x y : List Int} {z : Nat} {ds : List (Pt × Nat)} {H : List Ar} {p : Pt} {c k : Nat} (h : Dij l x y z ds H (fun q i => q = p ∧ k ≤ i) c) (ht : ∀ p', ¬ ToP l x y p k p') :
    Dij l x y z ds H (fun q i => q = p ∧ k + 1 ≤ i) c := by
  refine ⟨h.nd, h.heap, h.done, fun q e hq i r hr hO => h.clos q e hq i r hr fun g => hO ⟨g.1, ?_⟩, h.beg⟩
  by_cases e : i = k
  · subst e
    obtain ⟨rfl, _⟩ := g
    exact absurd hr (ht r)
  · omega
theorem Dij.all {l : List St} {x y : List Int} {z : Nat} {ds : List (Pt × Nat)} {H : List Ar} {p : Pt} {c k : Nat} (h : Dij l x y z ds H (fun q i => q = p ∧ k ≤ i) c) (hk : (el l p.1).2.length ≤ k) :
    Dij l x y z ds H (fun _ _ => False) c :=
  ⟨h.nd, h.heap, h.done, fun q e hq i r hr _ => h.clos q e hq i r hr fun g => by
    have := hr.1
    rw [g.1] at this
    omega, h.beg⟩
/-- Where no way waits, the done places are those that can be had, each for its least. -/
theorem Dij.told {l : List St} {x y : List Int} {z : Nat} {ds : List (Pt × Nat)} {b : Nat} (h : Dij l x y z ds [] (fun _ _ => False) b) {p : Pt} {c : Nat} (hr : Rch l x y z p c) : ∃ d, (p, d) ∈ ds ∧ d ≤ c := by
  induction hr with
  | nil =>
    rcases h.beg with g | g
    · exact ⟨0, g, Nat.le_refl _⟩
    · cases g
  | step hr hi e ih =>
    obtain ⟨d, h1, h2⟩ := ih
    rcases h.clos _ _ h1 _ _ e id with ⟨d', g1, g2⟩ | g
    · exact ⟨d', g1, by omega⟩
    · cases g
theorem Dij.few {l : List St} {x y : List Int} {z : Nat} {ds : List (Pt × Nat)} {H : List Ar} {O : Pt → Nat → Prop} {b : Nat} (h : Dij l x y z ds H O b) (hto : ToL l) (hz : z < l.length) (hl : l.length ≤ 60) (hx : x.length ≤ 12) (hy : y.length ≤ 12) : ds.length ≤ 10140 := by
  have hin : ∀ p ∈ ds.map Prod.fst, InP l x y p := fun p hp => by
    obtain ⟨⟨q, c⟩, h1, rfl⟩ := List.mem_map.1 hp
    exact (h.done q c h1).1.inside hto hz
  have hnd : ((ds.map Prod.fst).map fun p : Pt => idx x.length y.length p.1 p.2.1 p.2.2).Nodup := by
    unfold List.Nodup
    rw [List.pairwise_map]
    refine List.Pairwise.imp_of_mem ?_ h.nd
    rintro ⟨a, b, c⟩ ⟨a', b', c'⟩ h1 h2 hne e
    have i1 := hin _ h1
    have i2 := hin _ h2
    obtain ⟨rfl, rfl, rfl⟩ := idx_one i1.2.1 i1.2.2 i2.2.1 i2.2.2 e
    exact hne rfl
  have := pigeon (l.length * (x.length + 1) * (y.length + 1)) _ hnd (fun k hk => by
    obtain ⟨p, hp, rfl⟩ := List.mem_map.1 hk
    have := hin p hp
    exact idx_lt this.1 this.2.1 this.2.2)
  rw [List.length_map, List.length_map] at this
  have h1 : l.length * (x.length + 1) ≤ 60 * 13 := Nat.mul_le_mul hl (by omega)
  have h2 : l.length * (x.length + 1) * (y.length + 1) ≤ 60 * 13 * 13 := Nat.mul_le_mul h1 (by omega)
  omega
end Go.Proofs.YtfekmlblldhieaaGreatDoor.Pl
namespace Go.Proofs.YtfekmlblldhieaaGreatDoor.Pl
set_option linter.unusedVariables false
set_option linter.unusedSimpArgs false
/-- The least so far, and whether there is one. -/
def BstA (P : Nat → Prop) (n : Int) (f : Bool) : Prop := (f = false ∧ n = 0 ∧ ∀ c, ¬ P c) ∨ (f = true ∧ ∃ c : Nat, LeastP P c ∧ n = (c : Int))
/-- What is had at one of the first n states. -/
def CstN (R : Nat → Nat → Prop) (l : List St) (n : Nat) (c : Nat) : Prop := ∃ p d, p < n ∧ R p d ∧ (el l p).1 ≠ 1000000001 ∧ c = d + (el l p).1.toNat
def RW (m : Mc) (x y : List Int) (q d : Nat) : Prop := 0 ≤ m.1 ∧ Way m.2 m.1.toNat x y q d
theorem cstN_all (m : Mc) (x y : List Int) (c : Nat) : CstN (RW m x y) m.2 m.2.length c ↔ Costs m x y c := by
  unfold CstN Costs RW
  constructor
  · rintro ⟨p, d, h1, ⟨h0, h2⟩, h3, h4⟩
    exact ⟨h0, p, d, h2, h1, h3, h4⟩
  · rintro ⟨h0, p, d, h2, h1, h3, h4⟩
    exact ⟨p, d, h1, ⟨h0, h2⟩, h3, h4⟩
theorem BstA.start (R : Nat → Nat → Prop) (l : List St) : BstA (CstN R l 0) 0 false := .inl ⟨rfl, rfl, fun c ⟨p, d, h, _⟩ => by omega⟩
theorem BstA.congr {P Q : Nat → Prop} (hPQ : ∀ c, P c ↔ Q c) {n : Int} {f : Bool} (h : BstA P n f) : BstA Q n f := by
  have : P = Q := funext fun c => propext (hPQ c)
  rwa [← this]
theorem BstA.skip {R : Nat → Nat → Prop} {l : List St} {k : Nat} {n : Int} {f : Bool} (h : BstA (CstN R l k) n f) (hno : (∀ d, ¬ R k d) ∨ (el l k).1 = 1000000001) : BstA (CstN R l (k + 1)) n f := by
  refine h.congr fun c => ⟨fun ⟨p, d, h1, h2⟩ => ⟨p, d, by omega, h2⟩, fun ⟨p, d, h1, h2, h3, h4⟩ => ?_⟩
  by_cases e : p = k
  · subst e
    rcases hno with g | g
    · exact absurd h2 (g d)
    · exact absurd g h3
  · exact ⟨p, d, by omega, h2, h3, h4⟩
theorem BstA.take {R : Nat → Nat → Prop} {l : List St} {k e : Nat} {n : Int} {f : Bool} (h : BstA (CstN R l k) n f) (hw : LeastP (R k) e) (hf : (el l k).1 ≠ 1000000001) (h0 : 0 ≤ (el l k).1) (hlt : f = false ∨ (e : Int) + (el l k).1 < n) : BstA (CstN R l (k + 1)) ((e : Int) + (el l k).1) true := by
  refine .inr ⟨rfl, e + (el l k).1.toNat, ⟨⟨k, e, by omega, hw.1, hf, rfl⟩, ?_⟩, by omega⟩
  rintro c ⟨p, d, h1, h2, h3, rfl⟩
  by_cases g : p = k
  · subst g
    have := hw.2 d h2
    omega
  · rcases h with ⟨_, _, hno⟩ | ⟨rfl, b, hb, rfl⟩
    · exact absurd ⟨p, d, by omega, h2, h3, rfl⟩ (hno _)
    · have := hb.2 _ ⟨p, d, by omega, h2, h3, rfl⟩
      rcases hlt with g1 | g1
      · cases g1
      · omega
theorem BstA.stay {R : Nat → Nat → Prop} {l : List St} {k e : Nat} {n : Int} (h : BstA (CstN R l k) n true) (hw : LeastP (R k) e) (h0 : 0 ≤ (el l k).1) (hlt : ¬ (e : Int) + (el l k).1 < n) : BstA (CstN R l (k + 1)) n true := by
  rcases h with ⟨h, _⟩ | ⟨_, b, hb, rfl⟩
  · cases h
  · obtain ⟨p0, d0, g1, g2, g3, g4⟩ := hb.1
    refine .inr ⟨rfl, b, ⟨⟨p0, d0, by omega, g2, g3, g4⟩, ?_⟩, rfl⟩
    rintro c ⟨p, d, h1, h2, h3, rfl⟩
    by_cases g : p = k
    · subst g
      have := hw.2 d h2
      omega
    · exact hb.2 _ ⟨p, d, by omega, h2, h3, rfl⟩
/-- What the done places tell at the words' ends. -/
def PlT (m : Mc) (x y : List Int) (ds : List (Pt × Nat)) : Prop := ∀ q, q < m.2.length → (∃ d, ((q, x.length, y.length), d) ∈ ds ∧ d ≤ 20000000000000 ∧ LeastP (RW m x y q) d) ∨ ((∀ d, ((q, x.length, y.length), d) ∉ ds) ∧ ∀ d, ¬ RW m x y q d)
theorem PlT.none {m : Mc} {x y : List Int} (h : m.1 < 0) : PlT m x y [] := fun q hq => .inr ⟨fun d hd => (by cases hd), fun d hd => by have := hd.1; omega⟩
theorem PlT.dij {m : Mc} {x y : List Int} {z : Nat} {ds : List (Pt × Nat)} {b : Nat} (hz : m.1 = (z : Int)) (hzl : z < m.2.length) (hto : ToL m.2) (h : Dij m.2 x y z ds [] (fun _ _ => False) b) (hl : m.2.length ≤ 60) (hx : x.length ≤ 12) (hy : y.length ≤ 12) : PlT m x y ds := by
  intro q hq
  have hrw : ∀ d, RW m x y q d ↔ Rch m.2 x y z (q, x.length, y.length) d := fun d => by
    unfold RW
    rw [hz, Int.toNat_natCast, rch_iff hto hzl]
    exact ⟨fun h => h.2, fun h => ⟨by omega, h⟩⟩
  by_cases he : ∃ d, ((q, x.length, y.length), d) ∈ ds
  · obtain ⟨d, hd⟩ := he
    refine .inl ⟨d, hd, ?_, (hrw d).2 (h.done _ _ hd).1, fun d' hd' => ?_⟩
    · have h1 := (h.done _ _ hd).2.2
      have h2 := h.few hto hzl hl hx hy
      have : ds.length * 1000000000 ≤ 10140 * 1000000000 := Nat.mul_le_mul_right _ h2
      omega
    · obtain ⟨d2, h1, h2⟩ := h.told ((hrw d').1 hd')
      rw [nodup_one h.nd hd h1]
      exact h2
  · refine .inr ⟨fun d hd => he ⟨d, hd⟩, fun d hd => ?_⟩
    obtain ⟨d2, h1, _⟩ := h.told ((hrw d).1 hd)
    exact he ⟨d2, h1⟩
/-- As it is answered. -/
theorem BstA.wgh {P : Nat → Prop} {n : Int} {f : Bool} (h : BstA P n f) : WghAns P (if f = true then (if 1000000000 < n then 0 else n) else 1000000001) (if f = true then (if 1000000000 < n then 4 else 0) else 0) := by
  rcases h with ⟨rfl, rfl, h⟩ | ⟨rfl, c, hc, rfl⟩
  · exact .inl ⟨h, rfl, rfl⟩
  · rw [if_pos rfl, if_pos rfl]
    by_cases g : (1000000000 : Int) < c
    · rw [if_pos g, if_pos g]
      exact .inr ⟨c, hc, .inr ⟨by omega, rfl, rfl⟩⟩
    · rw [if_neg g, if_neg g]
      exact .inr ⟨c, hc, .inl ⟨by omega, rfl, rfl⟩⟩
theorem wgh_none {m : Mc} {x y : List Int} (h : m.1 < 0) : ∀ c, ¬ Costs m x y c := fun c ⟨h0, _⟩ => by omega
/-! A machine that writes nothing. -/
def silA (a : Ar) : Ar := (a.1, 0, a.2.2.1, a.2.2.2)
def silS (s : St) : St := (s.1, s.2.map silA)
def silM (m : Mc) : Mc := (m.1, m.2.map silS)
theorem el_inS {l : List St} {p : Nat} {a : Ar} (h : a ∈ (el l p).2) : p < l.length := by
  rcases Nat.lt_or_ge p l.length with g | g
  · exact g
  · have : el l p = default := by simp [el, g]
    rw [this] at h
    exact absurd h (by simp [default])
theorem way_sil {l : List St} {q p c : Nat} {u v : List Int} (h : Way l q u v p c) : Way (l.map silS) q u [] p c := by
  induction h with
  | nil => exact .nil
  | snoc h ha ht ih =>
    rename_i u v p c a t
    have hm : silA a ∈ (el (l.map silS) p).2 := by
      rw [el_map (el_inS ha)]
      exact List.mem_map_of_mem ha
    have := Way.snoc ih hm (t := t) ht
    rw [show ([] : List Int) ++ lab (silA a).2.1 = [] from rfl] at this
    exact this
theorem sil_way {l : List St} {q p c : Nat} {u v : List Int} (h : Way (l.map silS) q u v p c) : v = [] ∧ ∃ v', Way l q u v' p c := by
  induction h with
  | nil => exact ⟨rfl, [], .nil⟩
  | snoc h ha ht ih =>
    obtain ⟨rfl, v', hw⟩ := ih
    have hp := el_inS ha
    rw [List.length_map] at hp
    rw [el_map hp] at ha
    simp only [silS, List.mem_map] at ha
    obtain ⟨b, hb, rfl⟩ := ha
    refine ⟨by simp [silA, lab], v' ++ lab b.2.1, ?_⟩
    have := hw.snoc hb (t := _) ht
    simpa [silA] using this
theorem costs_sil (m : Mc) (x : List Int) (c : Nat) : Costs (silM m) x [] c ↔ CostsR m x c := by
  have hl : (silM m).2.length = m.2.length := by simp [silM]
  have hfin : ∀ p, p < m.2.length → (el (silM m).2 p).1 = (el m.2 p).1 := fun p hp => by simp only [silM]; rw [el_map hp]; rfl
  constructor
  · rintro ⟨h0, p, d, hw, hp, hf, rfl⟩
    rw [hl] at hp
    obtain ⟨_, v, hv⟩ := sil_way hw
    exact ⟨v, h0, p, d, hv, hp, by rw [← hfin p hp]; exact hf, by rw [hfin p hp]⟩
  · rintro ⟨y, h0, p, d, hw, hp, hf, rfl⟩
    exact ⟨h0, p, d, way_sil hw, by rw [hl]; exact hp, by rw [hfin p hp]; exact hf, by rw [hfin p hp]⟩
theorem sil_arcN (l : List St) : arcN (l.map silS) = arcN l := by
  induction l with
  | nil => rfl
  | cons s l ih => simp [arcN, silS, ih]
theorem sil_right {m : Mc} (h : faultM m = 0) : faultM (silM m) = 0 := by
  obtain ⟨h1, h2⟩ := faultM_zero h
  refine faultM_ok ?_ ?_
  · simp only [sizeB, silM, List.length_map, sil_arcN] at h1 ⊢
    exact h1
  · simp only [rangeB, silM, List.length_map, Bool.and_eq_true, List.all_eq_true, List.mem_map] at h2 ⊢
    refine ⟨h2.1, ?_⟩
    rintro s ⟨s0, hs0, rfl⟩
    have h3 := h2.2 s0 hs0
    simp only [stB, silS, Bool.and_eq_true, List.all_eq_true, List.mem_map] at h3 ⊢
    refine ⟨h3.1, ?_⟩
    rintro a ⟨b, hb, rfl⟩
    have h4 := h3.2 b hb
    unfold arcB at h4 ⊢
    simp only [Bool.and_eq_true] at h4 ⊢
    exact ⟨⟨⟨h4.1.1.1, rfl⟩, h4.1.2⟩, h4.2⟩
theorem sil_ok {m : Mc} (h : okM m) : okM (silM m) := by
  unfold okM at h ⊢
  simp only [silM, List.length_map]
  refine ⟨h.1, fun j hj => ?_⟩
  rw [el_map hj]
  simp only [silS, List.length_map]
  exact h.2 j hj
theorem right_toL {m : Mc} (h : faultM m = 0) : ToL m.2 := by
  obtain ⟨z, l⟩ := m
  intro q hq a ha
  simp only at hq ha ⊢
  have h1 := (right_st h hq).2
  rw [List.all_eq_true] at h1
  have h2 := h1 a ha
  simp only [arcB, Bool.and_eq_true, inB, decide_eq_true_eq] at h2
  refine ⟨⟨a.2.2.2.toNat, by omega, by omega⟩, by omega, by omega⟩
theorem right_arcs {m : Mc} (h : faultM m = 0) (q : Nat) : (el m.2 q).2.length ≤ 400 := by
  obtain ⟨z, l⟩ := m
  rcases Nat.lt_or_ge q l.length with g | g
  · have h1 := (right_size h).2
    have : (el l q).2.length ≤ arcN l := by
      have hs : ∀ (l : List St) (q : Nat), q < l.length → (el l q).2.length ≤ arcN l := by
        intro l
        induction l with
        | nil => intro q hq; simp at hq
        | cons s l ih =>
          intro q hq
          cases q with
          | zero => rw [el_zero]; simp [arcN]
          | succ q => rw [el_succ]; have := ih q (by simpa using hq); simp [arcN]; omega
      exact hs l q g
    exact Nat.le_trans this h1
  · have : el l q = default := by simp [el, g]
    show (el l q).2.length ≤ 400
    rw [this]
    simp [default]
/-- What a place's label tells: where it leads. -/
def behP (w : List Int) (i : Nat) (b : Int) : Int × Bool := if b = 0 then ((i : Int), true) else ((i : Int) + 1, decide (i < w.length ∧ el w i = b))
theorem behP_fit {w : List Int} {i : Nat} {b : Int} : ((behP w i b).2 = true → ∃ j : Nat, fitN w i b = some j ∧ (behP w i b).1 = (j : Int)) ∧ ((behP w i b).2 = false → fitN w i b = none) := by
  unfold behP fitN
  by_cases h : b = 0
  · simp [h]
  · by_cases g : i < w.length ∧ el w i = b
    · simp only [h, if_false, g, and_self, if_true, decide_true, true_implies, Bool.true_eq_false, false_implies, and_true]
      exact ⟨i + 1, rfl, by omega⟩
    · simp [h, g]
end Go.Proofs.YtfekmlblldhieaaGreatDoor.Pl
namespace Go.Proofs.YtfekmlblldhieaaGreatDoor.Pl
set_option linter.unusedVariables false
set_option linter.unusedSimpArgs false
theorem along_to {l : List St} {x y : List Int} {p : Pt} {k : Nat} {a : Ar} (hto : ToL l) (hin : InP l x y p) (hk : k < (el l p.1).2.length) (ha : el (el l p.1).2 k = a) :
    (∃ (p' : Pt) (wt : Nat), ToP l x y p k p' ∧ wtP l p k = wt ∧ wt ≤ 1000000000 ∧ a.2.2.1 = (wt : Int) ∧ a.2.2.2 = (p'.1 : Int) ∧ behP x p.2.1 a.1 = ((p'.2.1 : Int), true) ∧ behP y p.2.2 a.2.1 = ((p'.2.2 : Int), true)) ∨
    ((∀ p', ¬ ToP l x y p k p') ∧ ((behP x p.2.1 a.1).2 && (behP y p.2.2 a.2.1).2) = false) := by
  obtain ⟨⟨t, e1, e2⟩, w0, w1⟩ := hto _ hin.1 _ (el_mem hk)
  rw [ha] at e1 w0 w1
  have no1 : fitN x p.2.1 a.1 = none → ∀ p', ¬ ToP l x y p k p' := fun h p' ⟨_, _, h2, _⟩ => by rw [ha, h] at h2; cases h2
  have no2 : fitN y p.2.2 a.2.1 = none → ∀ p', ¬ ToP l x y p k p' := fun h p' ⟨_, _, _, h2⟩ => by rw [ha, h] at h2; cases h2
  rcases hb1 : (behP x p.2.1 a.1).2 with _ | _
  · exact .inr ⟨no1 (behP_fit.2 hb1), rfl⟩
  · rcases hb2 : (behP y p.2.2 a.2.1).2 with _ | _
    · exact .inr ⟨no2 (behP_fit.2 hb2), rfl⟩
    · obtain ⟨i, f1, g1⟩ := behP_fit.1 hb1
      obtain ⟨j, f2, g2⟩ := behP_fit.1 hb2
      refine .inl ⟨(t, i, j), a.2.2.1.toNat, ⟨hk, by rw [ha]; exact e1, by rw [ha]; exact f1, by rw [ha]; exact f2⟩, by unfold wtP; rw [ha], by omega, by omega, e1, ?_, ?_⟩
      · rw [← g1, ← hb1]
      · rw [← g2, ← hb2]
end Go.Proofs.YtfekmlblldhieaaGreatDoor.Pl
namespace Go.Proofs.YtfekmlblldhieaaGreatDoor.Pl
set_option linter.unusedVariables false
set_option linter.unusedSimpArgs false
/-- P12.1: the first word that is refused. -/
def wdsE : List (List Int) → Int
  | [] => 0
  | x :: r => if wrdE x ≠ 0 then wrdE x else wdsE r
theorem wds_one (x : List Int) : wdsE [x] = wrdE x := by
  unfold wdsE wdsE
  split
  · rfl
  · rename_i h; simp at h; exact h.symm
theorem wds_two (x y : List Int) : wdsE [x, y] = croE x y := by
  unfold wdsE croE
  rw [wds_one]
theorem wds_at : ∀ {ws : List (List Int)} {k : Nat}, k < ws.length → (∀ j, j < k → wrdE (el ws j) = 0) → wrdE (el ws k) ≠ 0 → wdsE ws = wrdE (el ws k)
  | [], k, h, _, _ => absurd h (by simp)
  | x :: r, 0, _, _, h => by rw [el_zero] at h ⊢; unfold wdsE; rw [if_pos h]
  | x :: r, k + 1, hk, hz, h => by
    have h0 := hz 0 (by omega)
    rw [el_zero] at h0
    rw [el_succ] at h ⊢
    unfold wdsE
    rw [if_neg (by simp [h0])]
    exact wds_at (by simpa using hk) (fun j hj => by have := hz (j + 1) (by omega); rwa [el_succ] at this) h
theorem wds_all : ∀ {ws : List (List Int)}, (∀ j, j < ws.length → wrdE (el ws j) = 0) → wdsE ws = 0
  | [], _ => rfl
  | x :: r, h => by
    have h0 := h 0 (by simp)
    rw [el_zero] at h0
    unfold wdsE
    rw [if_neg (by simp [h0])]
    exact wds_all (fun j hj => by have := h (j + 1) (by simpa using hj); rwa [el_succ] at this)
def labsB (l : List Int) : Bool := l.all (fun b => inB b 1 1000)
theorem wrd_labs {l : List Int} (h : ¬ 12 < l.length) : wrdE l = if labsB l = true then 0 else 2 := by
  unfold wrdE labsB
  rw [if_neg h]
end Go.Proofs.YtfekmlblldhieaaGreatDoor.Pl
namespace Go.Proofs.YtfekmlblldhieaaGreatDoor.Pl
set_option linter.unusedVariables false
set_option linter.unusedSimpArgs false
def wghE1 (m : Mc) (x : List Int) : Int := if faultM m ≠ 0 then faultM m else wrdE x
def wghE2 (m : Mc) (x y : List Int) : Int := if faultM m ≠ 0 then faultM m else croE x y
def WgR (P : Nat → Prop) (r n ec : Int) : Prop := if r = 0 then WghAns P n ec else n = 0 ∧ ec = r
theorem WgR.one {P : Nat → Prop} {r n e n' e' : Int} (h : WgR P r n e) (k : WgR P r n' e') : n = n' ∧ e = e' := by
  unfold WgR at h k
  by_cases g : r = 0
  · rw [if_pos g] at h k; exact h.one k
  · rw [if_neg g] at h k
    obtain ⟨rfl, rfl⟩ := h
    obtain ⟨rfl, rfl⟩ := k
    exact ⟨rfl, rfl⟩
end Go.Proofs.YtfekmlblldhieaaGreatDoor.Pl
