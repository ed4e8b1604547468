/- Numbering what hops lead to, one behind the other (no program in sight). -/
import Derived.Test.YtfhjncpakgailaaGreatDoorMad
import Derived.Test.YtfhjncpakgailaaGreatDoorMab
namespace Go.Proofs.YtfhjncpakgailaaGreatDoor.Pl
set_option linter.unusedVariables false
set_option linter.unusedSimpArgs false
abbrev Hg (α : Type) := Int × Int × Int × α
section
variable {α : Type} [DecidableEq α]
def addG (L : List α) (t : α) : List α := if t ∈ L then L else L ++ [t]
def arcG (L : List α) (h : Hg α) : Ar := (h.1, h.2.1, h.2.2.1, (L.idxOf h.2.2.2 : Int))
def numH : List (Hg α) → List α → Nat → Int × List α × List Ar
 | [], L, _ => (0, L, [])
 | h :: hs, L, n => if 1000000000 < h.2.2.1 then (4, [], []) else if 400 < n + 1 ∨ 60 < (addG L h.2.2.2).length then (5, [], []) else ((numH hs (addG L h.2.2.2) (n + 1)).1, (numH hs (addG L h.2.2.2) (n + 1)).2.1, arcG L h :: (numH hs (addG L h.2.2.2) (n + 1)).2.2)
theorem addG_ext (L : List α) (t : α) : ∃ E, addG L t = L ++ E := by
 unfold addG
 split
 ·exact ⟨[], by simp⟩
 ·exact ⟨[t], rfl⟩
theorem addG_mem (L : List α) (t : α) : t ∈ addG L t := by
 unfold addG
 split
 ·assumption
 ·simp
theorem addG_nodup {L : List α} (h : L.Nodup) (t : α) : (addG L t).Nodup := by
 unfold addG
 split
 ·exact h
 ·rename_i g
  rw [List.nodup_append]
  refine ⟨h, by simp, fun x hx y hy e => ?_⟩
  simp only [List.mem_singleton] at hy
  exact g (by rw [← hy, ← e]; exact hx)
theorem addG_old {L : List α} {t : α} (h : t ∈ L) : addG L t = L := if_pos h
theorem addG_new {L : List α} {t : α} (h : t ∉ L) : addG L t = L ++ [t] := if_neg h
theorem addG_len (L : List α) (t : α) : L.length ≤ (addG L t).length ∧ (addG L t).length ≤ L.length + 1 := by
 unfold addG
 split
 ·omega
 ·simp
theorem idxG_ext {L E : List α} {t : α} (h : t ∈ L) : (L ++ E).idxOf t = L.idxOf t := by
 rw [List.idxOf_append, if_pos h]
theorem addG_idx (L : List α) (t : α) : (addG L t).idxOf t = L.idxOf t := by
 unfold addG
 split
 ·rfl
 ·rename_i g
  rw [List.idxOf_append, if_neg g, List.idxOf_eq_length g]
  simp
theorem idxG_new {L : List α} {t : α} (h : t ∉ L) : L.idxOf t = L.length := List.idxOf_eq_length h
theorem numH_facts (hs : List (Hg α)) : ∀ (L : List α) (n : Nat), L.Nodup → (numH hs L n).1 = 0 → (∃ E, (numH hs L n).2.1 = L ++ E) ∧ (numH hs L n).2.1.Nodup ∧ (∀ h ∈ hs, h.2.2.2 ∈ (numH hs L n).2.1 ∧ h.2.2.1 ≤ 1000000000) ∧ (numH hs L n).2.2 = hs.map (arcG (numH hs L n).2.1) ∧ (L.length ≤ 60 → (numH hs L n).2.1.length ≤ 60) ∧ (n ≤ 400 → n + hs.length ≤ 400) := by
  induction hs with
  | nil => intro L n h _; exact ⟨⟨[], by simp [numH]⟩, h, fun h hh => (by cases hh), rfl, fun h => h, fun h => h⟩
  | cons h hs ih =>
    intro L n hL h0
    simp only [numH] at h0 ⊢
    by_cases c1 : 1000000000 < h.2.2.1
    · rw [if_pos c1] at h0
      cases h0
    · rw [if_neg c1] at h0 ⊢
      by_cases c2 : 400 < n + 1 ∨ 60 < (addG L h.2.2.2).length
      · rw [if_pos c2] at h0
        cases h0
      · rw [if_neg c2] at h0 ⊢
        simp only at h0 ⊢
        obtain ⟨⟨E, e1⟩, h2, h3, h4, h5, h6⟩ := ih _ (n + 1) (addG_nodup hL h.2.2.2) h0
        obtain ⟨D, e2⟩ := addG_ext L h.2.2.2
        have hin : h.2.2.2 ∈ (numH hs (addG L h.2.2.2) (n + 1)).2.1 := by
          rw [e1]
          exact List.mem_append_left _ (addG_mem _ _)
        refine ⟨⟨D ++ E, by rw [e1, e2, List.append_assoc]⟩, h2, fun k hk => ?_, ?_, fun _ => h5 (by omega), fun _ => ?_⟩
        · rcases List.mem_cons.1 hk with rfl | hk
          · exact ⟨hin, by omega⟩
          · exact h3 k hk
        · simp only [List.map_cons]
          rw [h4]
          congr 1
          simp only [arcG]
          rw [e1, idxG_ext (addG_mem _ _), addG_idx]
        · have := h6 (by omega)
          simp only [List.length_cons]
          omega
theorem numH_led (hs : List (Hg α)) : ∀ (L : List α) (n : Nat), (numH hs L n).1 = 0 → ∀ t ∈ (numH hs L n).2.1, t ∈ L ∨ ∃ h ∈ hs, h.2.2.2 = t := by
  induction hs with
  | nil => intro L n _ t ht; exact .inl ht
  | cons h hs ih =>
    intro L n h0 t ht
    simp only [numH] at h0 ht
    by_cases c1 : 1000000000 < h.2.2.1
    · rw [if_pos c1] at h0
      cases h0
    · rw [if_neg c1] at h0 ht
      by_cases c2 : 400 < n + 1 ∨ 60 < (addG L h.2.2.2).length
      · rw [if_pos c2] at h0
        cases h0
      · rw [if_neg c2] at h0 ht
        rcases ih _ _ h0 t ht with g | ⟨k, hk, e⟩
        · by_cases m : h.2.2.2 ∈ L
          · rw [addG_old m] at g; exact .inl g
          · rw [addG_new m] at g
            rcases List.mem_append.1 g with g | g
            · exact .inl g
            · simp only [List.mem_singleton] at g
              exact .inr ⟨h, List.mem_cons_self, g.symm⟩
        · exact .inr ⟨k, List.mem_cons_of_mem _ hk, e⟩
end
section
variable {α : Type} [DecidableEq α] [Inhabited α]
variable (fin : α → Int × Int) (hops : α → List (Hg α))
def numS : Nat → Nat → List α → List St → Nat → Mc × Int
  | 0, _, _, _, _ => ((0, []), 5)
  | k + 1, q, L, S, n =>
    if q < L.length then
      if (fin (el L q)).2 ≠ 0 then ((0, []), (fin (el L q)).2)
      else if (numH (hops (el L q)) L n).1 ≠ 0 then ((0, []), (numH (hops (el L q)) L n).1)
      else numS k (q + 1) (numH (hops (el L q)) L n).2.1 (S ++ [((fin (el L q)).1, (numH (hops (el L q)) L n).2.2)]) (n + (hops (el L q)).length)
    else ((0, S), 0)
def numA (s0 : α) : Mc × Int := numS fin hops 61 0 [s0] [] 0
variable {fin} {hops}
theorem idxG_el {L : List α} (hn : L.Nodup) {k : Nat} (h : k < L.length) : L.idxOf (el L k) = k := by
  induction L generalizing k with
  | nil => simp at h
  | cons x L ih =>
    rw [List.nodup_cons] at hn
    cases k with
    | zero => simp [el]
    | succ k =>
      have hk : k < L.length := by simpa using h
      have e9 : el (x :: L) (k + 1) = el L k := by simp [el]
      have hne : ¬ x = el L k := fun e => hn.1 (by rw [e]; exact el_mem hk)
      rw [e9, List.idxOf_cons]
      have hb : (x == el L k) = false := by simpa using hne
      rw [hb, ih hn.2 hk]
      rfl
theorem el_idxG {L : List α} {t : α} (h : t ∈ L) : L.idxOf t < L.length ∧ el L (L.idxOf t) = t := by
 have h1 : L.idxOf t < L.length := List.idxOf_lt_length_iff.2 h
 exact ⟨h1, by rw [el_get h1]; exact List.getElem_idxOf h1⟩
structure ExpI (fin : α → Int × Int) (hops : α → List (Hg α)) (s0 : α) (q : Nat) (L : List α) (S : List St) : Prop where
 nodup : L.Nodup
 le : q ≤ L.length
 l60 : L.length ≤ 60
 len : S.length = q
 start : ∃ E, L = s0 :: E
 right : ∀ i, i < q → (fin (el L i)).2 = 0
 low : ∀ i, i < q → ∀ h ∈ hops (el L i), h.2.2.1 ≤ 1000000000
 shut : ∀ i, i < q → ∀ h ∈ hops (el L i), h.2.2.2 ∈ L
 sts : ∀ i, i < q → el S i = ((fin (el L i)).1, (hops (el L i)).map (arcG L))
 led : ∀ i, 0 < i → i < L.length → ∃ j h, j < i ∧ j < q + 1 ∧ h ∈ hops (el L j) ∧ h.2.2.2 = el L i
theorem ExpI.init (fin : α → Int × Int) (hops : α → List (Hg α)) (s0 : α) : ExpI fin hops s0 0 [s0] [] := ⟨by simp, by simp, by simp, rfl, ⟨[], rfl⟩, fun i hi => by omega, fun i hi => by omega, fun i hi => by omega, fun i hi => by omega, fun i h0 hi => by simp at hi; omega⟩
theorem ExpI.step {s0 : α} {q : Nat} {L : List α} {S : List St} {n : Nat} (h : ExpI fin hops s0 q L S) (hq : q < L.length) (he : (fin (el L q)).2 = 0) (h0 : (numH (hops (el L q)) L n).1 = 0) :
  ExpI fin hops s0 (q + 1) (numH (hops (el L q)) L n).2.1 (S ++ [((fin (el L q)).1, (numH (hops (el L q)) L n).2.2)]) := by
 obtain ⟨⟨E, e1⟩, h2, h3, h4, h5, _⟩ := numH_facts (hops (el L q)) L n h.nodup h0
 have h6 := numH_led (hops (el L q)) L n h0
 have h5 := h5 h.l60
 rw [h4]
 generalize (numH (hops (el L q)) L n).2.1 = L' at *
 subst e1
 have hel : ∀ i, i < L.length → el (L ++ E) i = el L i := fun i hi => el_appendL hi
 refine ⟨h2, by simp; omega, h5, by simp [h.len], ?_, fun i hi => ?_, fun i hi k hk => ?_, fun i hi k hk => ?_, fun i hi => ?_, fun i hp hi => ?_⟩
 ·obtain ⟨D, e⟩ := h.start
  exact ⟨D ++ E, by rw [e]; rfl⟩
 ·rw [hel i (by omega)]
  rcases Nat.lt_succ_iff_lt_or_eq.1 hi with g | rfl
  ·exact h.right i g
  ·exact he
 ·rw [hel i (by omega)] at hk
  rcases Nat.lt_succ_iff_lt_or_eq.1 hi with g | rfl
  ·exact h.low i g k hk
  ·exact (h3 k hk).2
 ·rw [hel i (by omega)] at hk
  rcases Nat.lt_succ_iff_lt_or_eq.1 hi with g | rfl
  ·exact List.mem_append_left _ (h.shut i g k hk)
  ·exact (h3 k hk).1
 ·rw [hel i (by omega)]
  rcases Nat.lt_succ_iff_lt_or_eq.1 hi with g | rfl
  ·rw [el_appendL (by rw [h.len]; exact g), h.sts i g]
   congr 1
   refine List.map_congr_left fun k hk => ?_
   simp only [arcG]
   rw [idxG_ext (h.shut i g k hk)]
  ·have := h.len
   subst this
   rw [el_appendE]
 ·by_cases hl : i < L.length
  ·obtain ⟨j, k, g1, g2, g3, g4⟩ := h.led i hp hl
   exact ⟨j, k, g1, by omega, by rw [hel j (by omega)]; exact g3, by rw [hel i hl]; exact g4⟩
  ·have hm : el (L ++ E) i ∈ L ++ E := el_mem hi
   rcases h6 _ hm with g | ⟨k, hk, e⟩
   ·obtain ⟨j, hj, ej⟩ := List.getElem_of_mem g
    have h7 := idxG_el h2 hi
    have h8 := idxG_el h2 (k := j) (by simp; omega)
    rw [hel j hj, el_get hj, ej, h7] at h8
    omega
   ·exact ⟨q, k, by omega, by omega, by rw [hel q hq]; exact hk, e⟩
theorem numS_done {s0 : α} : ∀ (k q : Nat) (L : List α) (S : List St) (n : Nat) (x : Mc), ExpI fin hops s0 q L S → numS fin hops k q L S n = (x, 0) → x.1 = 0 ∧ ∃ L', (∃ E, L' = L ++ E) ∧ ExpI fin hops s0 L'.length L' x.2 := by
  intro k
  induction k with
  | zero => intro q L S n x h e; simp only [numS, Prod.mk.injEq] at e; exact absurd e.2 (by decide)
  | succ k ih =>
    intro q L S n x h e
    simp only [numS] at e
    split at e
    · rename_i hq
      split at e
      · rename_i he
        simp only [Prod.mk.injEq] at e
        exact absurd e.2 he
      · rename_i he
        split at e
        · rename_i h0; simp only [Prod.mk.injEq] at e; exact absurd e.2 h0
        · rename_i h0
          have h0' : (numH (hops (el L q)) L n).1 = 0 := by simpa using h0
          obtain ⟨h1, L', ⟨E, e2⟩, h2⟩ := ih _ _ _ _ _ (h.step hq (by simpa using he) h0') e
          obtain ⟨⟨D, e3⟩, _⟩ := numH_facts (hops (el L q)) L n h.nodup h0'
          exact ⟨h1, L', ⟨D ++ E, by rw [e2, e3, List.append_assoc]⟩, h2⟩
    · rename_i hq
      simp only [Prod.mk.injEq] at e
      obtain ⟨rfl, _⟩ := e
      have : q = L.length := by have := h.le; omega
      subst this
      exact ⟨rfl, L, ⟨[], by simp⟩, h⟩
theorem numA_done {s0 : α} {x : Mc} (h : numA fin hops s0 = (x, 0)) : x.1 = 0 ∧ ∃ L, ExpI fin hops s0 L.length L x.2 := by
 obtain ⟨h1, L, _, h2⟩ := numS_done _ _ _ _ _ _ (ExpI.init fin hops s0) h
 exact ⟨h1, L, h2⟩
inductive HopG (hops : α → List (Hg α)) (s0 : α) : List Int → List Int → α → Nat → Prop
 | nil : HopG hops s0 [] [] s0 0
 | snoc {u v : List Int} {t : α} {c : Nat} {h : Hg α} : HopG hops s0 u v t c → h ∈ hops t → HopG hops s0 (u ++ lab h.1) (v ++ lab h.2.1) h.2.2.2 (c + h.2.2.1.toNat)
theorem ExpI.zero {s0 : α} {q : Nat} {L : List α} {S : List St} (h : ExpI fin hops s0 q L S) : 0 < L.length ∧ el L 0 = s0 ∧ L.idxOf s0 = 0 := by
 obtain ⟨E, rfl⟩ := h.start
 exact ⟨by simp, by simp [el], by simp⟩
theorem ExpI.hop {s0 : α} {L : List α} {S : List St} (h : ExpI fin hops s0 L.length L S) {u v : List Int} {t : α} {c : Nat} (hw : HopG hops s0 u v t c) : t ∈ L ∧ Way S 0 u v (L.idxOf t) c := by
  induction hw with
  | nil =>
    obtain ⟨h1, h2, h3⟩ := h.zero
    rw [h3]
    exact ⟨by obtain ⟨E, rfl⟩ := h.start; simp, .nil⟩
  | snoc hw hh ih =>
    rename_i u v t c k
    obtain ⟨i1, i2⟩ := ih
    obtain ⟨g1, g2⟩ := el_idxG i1
    have hk : k ∈ hops (el L (L.idxOf t)) := by rw [g2]; exact hh
    refine ⟨h.shut _ g1 k hk, ?_⟩
    have hm : arcG L k ∈ (el S (L.idxOf t)).2 := by
      rw [h.sts _ g1]
      exact List.mem_map_of_mem hk
    exact i2.snoc hm rfl
theorem ExpI.hopAt {s0 : α} {L : List α} {S : List St} (h : ExpI fin hops s0 L.length L S) {u v : List Int} {t : α} {c : Nat} (hw : HopG hops s0 u v t c) : ∃ i, i < L.length ∧ el L i = t ∧ Way S 0 u v i c := by
 obtain ⟨h1, h2⟩ := h.hop hw
 obtain ⟨h3, h4⟩ := el_idxG h1
 exact ⟨_, h3, h4, h2⟩
theorem ExpI.way {s0 : α} {L : List α} {S : List St} (h : ExpI fin hops s0 L.length L S) {u v : List Int} {p c : Nat} (hw : Way S 0 u v p c) : p < L.length ∧ HopG hops s0 u v (el L p) c := by
  induction hw with
  | nil =>
    obtain ⟨h1, h2, h3⟩ := h.zero
    rw [h2]
    exact ⟨h1, .nil⟩
  | snoc hw ha ht ih =>
    rename_i u v p c a t
    obtain ⟨i1, i2⟩ := ih
    rw [h.sts p i1] at ha
    obtain ⟨k, hk, rfl⟩ := List.mem_map.1 ha
    have ht' : L.idxOf k.2.2.2 = t := by simp only [arcG] at ht; omega
    obtain ⟨g1, g2⟩ := el_idxG (h.shut p i1 k hk)
    rw [ht'] at g1 g2
    refine ⟨g1, ?_⟩
    rw [g2]
    exact i2.snoc hk
end
end Go.Proofs.YtfhjncpakgailaaGreatDoor.Pl
namespace Go.Proofs.YtfhjncpakgailaaGreatDoor.Pl
theorem ahead_irrefl (a : Ar) : aheadB a a = false := by rw [aheadB_false]; omega
theorem ahead_lt {a b c : Ar} (h1 : aheadB a b = true) (h2 : aheadB b c = true) : aheadB a c = true := by
 rw [aheadB_iff] at *; omega
theorem ahead_asymm {a b : Ar} (h1 : aheadB a b = true) : aheadB b a = false := by
 rw [aheadB_iff] at h1; rw [aheadB_false]; omega
theorem ahead_same {a b : Ar} (h1 : aheadB a b = false) (h2 : aheadB b a = false) : a = b := by
 obtain ⟨a0, a1, a2, a3⟩ := a
 obtain ⟨b0, b1, b2, b3⟩ := b
 rw [aheadB_false] at *
 simp only at h1 h2
 have e0 : a0 = b0 := by omega
 have e1 : a1 = b1 := by omega
 have e2 : a2 = b2 := by omega
 have e3 : a3 = b3 := by omega
 rw [e0, e1, e2, e3]
def leB (a b : Ar) : Bool := !aheadB b a
def sortL (l : List Ar) : List Ar := l.mergeSort leB
theorem leB_trans (a b c : Ar) (h1 : leB a b = true) (h2 : leB b c = true) : leB a c = true := by
 simp only [leB, Bool.not_eq_true'] at *
 exact ahead_trans h1 h2
theorem leB_total (a b : Ar) : (leB a b || leB b a) = true := by
 simp only [leB, Bool.or_eq_true, Bool.not_eq_true']
 rcases bool_cases' (aheadB b a) with h | h
 ·exact .inr (ahead_asymm h)
 ·exact .inl h
theorem sortL_perm (l : List Ar) : (sortL l).Perm l := List.mergeSort_perm _ _
theorem sortL_length (l : List Ar) : (sortL l).length = l.length := (sortL_perm l).length_eq
theorem sortL_pair (l : List Ar) : (sortL l).Pairwise fun a b => leB a b = true := List.pairwise_mergeSort leB_trans leB_total l
theorem sortL_one {l r : List Ar} (hp : r.Perm l) (hr : r.Pairwise fun a b => leB a b = true) : r = sortL l := by
 refine List.Perm.eq_of_pairwise (le := fun x y => leB x y = true) ?_ hr (sortL_pair l) (hp.trans (sortL_perm l).symm)
 intro a b _ _ h1 h2
 simp only [leB, Bool.not_eq_true'] at h1 h2
 exact ahead_same h2 h1
def placeL : List Ar → Ar → List Ar
 | [], a => [a]
 | x :: l, a => if aheadB a x = true then a :: x :: l else x :: placeL l a
theorem placeL_perm (l : List Ar) (a : Ar) : (placeL l a).Perm (a :: l) := by
  induction l with
  | nil => exact List.Perm.refl _
  | cons x l ih =>
    simp only [placeL]
    split
    · exact List.Perm.refl _
    · exact (List.Perm.cons x ih).trans (List.Perm.swap a x l)
theorem placeL_pair {l : List Ar} (h : l.Pairwise fun a b => leB a b = true) (a : Ar) : (placeL l a).Pairwise fun a b => leB a b = true := by
  induction l with
  | nil => simp [placeL]
  | cons x l ih =>
    rw [List.pairwise_cons] at h
    simp only [placeL]
    split
    · rename_i hx
      rw [List.pairwise_cons, List.pairwise_cons]
      have hax : leB a x = true := by simp [leB, ahead_asymm hx]
      refine ⟨fun y hy => ?_, h.1, h.2⟩
      rcases List.mem_cons.1 hy with rfl | hy
      · exact hax
      · exact leB_trans _ _ _ hax (h.1 y hy)
    · rename_i hx
      rw [List.pairwise_cons]
      refine ⟨fun y hy => ?_, ih h.2⟩
      rcases List.mem_cons.1 ((placeL_perm l a).mem_iff.1 hy) with rfl | hy
      · simpa [leB] using hx
      · exact h.1 y hy
def ordL (l : List Ar) : List Ar := l.foldl placeL []
theorem ordL_spec (l r : List Ar) (h : r.Pairwise fun a b => leB a b = true) : (l.foldl placeL r).Perm (l ++ r) ∧ (l.foldl placeL r).Pairwise fun a b => leB a b = true := by
  induction l generalizing r with
  | nil => exact ⟨List.Perm.refl _, h⟩
  | cons x l ih =>
    obtain ⟨h1, h2⟩ := ih (placeL r x) (placeL_pair h x)
    refine ⟨h1.trans ?_, h2⟩
    exact ((placeL_perm r x).append_left l).trans (List.perm_middle (l₁ := l) (a := x) (l₂ := r))
theorem ordL_sortL (l : List Ar) : ordL l = sortL l := by
 obtain ⟨h1, h2⟩ := ordL_spec l [] List.Pairwise.nil
 exact sortL_one (by rw [List.append_nil] at h1; exact h1) h2
def flipA (a : Ar) : Ar := (a.2.1, a.1, a.2.2.1, a.2.2.2)
def aheadS (s : Bool) (a b : Ar) : Bool := if s then aheadB (flipA a) (flipA b) else aheadB a b
def sortS (s : Bool) (l : List Ar) : List Ar := l.mergeSort fun a b => !aheadS s b a
theorem sortS_false (l : List Ar) : sortS false l = ordL l := by rw [ordL_sortL]; rfl
theorem sortS_perm (s : Bool) (l : List Ar) : (sortS s l).Perm l := List.mergeSort_perm _ _
theorem sortS_length (s : Bool) (l : List Ar) : (sortS s l).length = l.length := (sortS_perm s l).length_eq
def mapM (f : List Ar → List Ar) (m : Mc) : Mc := (m.1, m.2.map fun s => (s.1, f s.2))
def cmpS (s : Bool) (a b : Ar) : Int := if s then orI (cmpI a.2.1 b.2.1) (cmpI a.1 b.1) (cmpI a.2.2.2 b.2.2.2) (cmpI a.2.2.1 b.2.2.1) else orI (cmpI a.1 b.1) (cmpI a.2.1 b.2.1) (cmpI a.2.2.2 b.2.2.2) (cmpI a.2.2.1 b.2.2.1)
theorem cmpS_neg (s : Bool) (a b : Ar) : decide (cmpS s a b < 0) = aheadS s a b := by
 cases s
 ·exact orI_neg a b
 ·exact orI_neg (flipA a) (flipA b)
end Go.Proofs.YtfhjncpakgailaaGreatDoor.Pl
namespace Go.Proofs.YtfhjncpakgailaaGreatDoor.Pl
set_option linter.unusedVariables false
set_option linter.unusedSimpArgs false
section
variable {E : Nat → Nat → Nat → Prop} {s : Nat}
theorem Run.parts {n k c : Nat} (h : Run E s n k c) : ∃ f g : Nat → Nat, f 0 = s ∧ f n = k ∧ g n = c ∧ (∀ i, i ≤ n → Run E s i (f i) (g i) ∧ ∃ d, Run E (f i) (n - i) k d ∧ g i + d = c) ∧ ∀ i j, i ≤ j → j ≤ n → g i ≤ g j := by
  induction h with
  | nil => exact ⟨fun _ => s, fun _ => 0, rfl, rfl, rfl, fun i hi => ⟨by rw [show i = 0 by omega]; exact .nil, 0, by rw [show i = 0 by omega]; exact .nil, rfl⟩, fun _ _ _ _ => Nat.le_refl _⟩
  | step h e ih =>
    rename_i n k c w j
    obtain ⟨f, g, f0, fn, gn, hf, hg⟩ := ih
    refine ⟨fun i => if i ≤ n then f i else j, fun i => if i ≤ n then g i else c + w, by simp [f0], if_neg (by omega), if_neg (by omega), fun i hi => ?_, fun a b hab hb => ?_⟩
    · by_cases q : i ≤ n
      · simp only [q, if_true]
        obtain ⟨h1, d, h2, h3⟩ := hf i q
        refine ⟨h1, d + w, ?_, by omega⟩
        have := h2.step e
        rwa [show n - i + 1 = n + 1 - i by omega] at this
      · obtain rfl : i = n + 1 := by omega
        simp only [q, if_false]
        exact ⟨h.step e, 0, by rw [Nat.sub_self]; exact .nil, by omega⟩
    · simp only
      by_cases qb : b ≤ n
      · rw [if_pos qb, if_pos (by omega)]; exact hg a b hab qb
      · rw [if_neg qb]
        by_cases qa : a ≤ n
        · rw [if_pos qa]
          have := hg a n qa (Nat.le_refl _)
          omega
        · rw [if_neg qa]; omega
theorem Run.cheap {N : Nat} (hs : s < N) (hE : ∀ k w j, E k w j → j < N) : ∀ {n k c : Nat}, Run E s n k c → ∃ m d, m < N ∧ d ≤ c ∧ Run E s m k d := by
  have key : ∀ b n k c, n < b → Run E s n k c → ∃ m d, m < N ∧ d ≤ c ∧ Run E s m k d := by
    intro b
    induction b with
    | zero => intro n k c hn; omega
    | succ b ih =>
      intro n k c hn h
      by_cases g : n < N
      · exact ⟨n, c, g, Nat.le_refl _, h⟩
      · obtain ⟨f, gg, f0, fn, gn, hf, hg⟩ := h.parts
        have hin : ∀ i, i ≤ n → f i < N := fun i hi => by
          have h1 := (hf i hi).1
          generalize gg i = y2 at h1
          generalize f i = y at h1
          cases h1 with
          | nil => exact hs
          | step _ e => exact hE _ _ _ e
        obtain ⟨i, j, hij, hj, e⟩ := twice hin (by omega)
        have h1 := (hf i (by omega)).1
        obtain ⟨_, d', h2, h3⟩ := hf j hj
        rw [← e] at h2
        have h4 := hg i j (by omega) hj
        obtain ⟨m, d, hm, hd, hr⟩ := ih _ _ _ (by omega) (h1.trans h2)
        exact ⟨m, d, hm, by omega, hr⟩
  exact fun {n k c} h => key (n + 1) n k c (by omega) h
theorem Run.head {n k c : Nat} (h : Run E s (n + 1) k c) : ∃ j w c', E s w j ∧ Run E j n k c' ∧ c = w + c' := by
  have key : ∀ {m k c}, Run E s m k c → ∀ n, m = n + 1 → ∃ j w c', E s w j ∧ Run E j n k c' ∧ c = w + c' := by
    intro m k c h
    induction h with
    | nil => intro n hn; omega
    | step h e ih =>
      rename_i m k c w j
      intro n hn
      obtain rfl : m = n := by omega
      cases m with
      | zero =>
        cases h with
        | nil => exact ⟨j, w, 0, e, .nil, by omega⟩
      | succ m =>
        obtain ⟨j', w', c', e', h', rfl⟩ := ih m rfl
        exact ⟨j', w', c' + w, e', h'.step e, by omega⟩
  exact key h n rfl
theorem Run.first {j w n k c : Nat} (e : E s w j) (h : Run E j n k c) : Run E s (n + 1) k (w + c) := by
 have h1 : Run E s 1 j (0 + w) := Run.nil.step e
 have := h1.trans h
 rwa [show 1 + n = n + 1 by omega, Nat.zero_add] at this
end
def ArcE (l : List St) (k w j : Nat) : Prop := ∃ a ∈ (el l k).2, a.2.2.2 = (j : Int) ∧ w = a.2.2.1.toNat
def FarC (z : Int) (l : List St) (q c : Nat) : Prop := 0 ≤ z ∧ ∃ n, Run (ArcE l) z.toNat n q c
def EndC (l : List St) (q c : Nat) : Prop := ∃ n p d, Run (ArcE l) q n p d ∧ p < l.length ∧ (el l p).1 ≠ 1000000001 ∧ c = d + (el l p).1.toNat
structure FarT (z : Int) (l : List St) (cs : List Int) : Prop where
 len : cs.length = l.length
 rng : ∀ q, q < l.length → 0 ≤ el cs q ∧ el cs q ≤ noneI
 run : ∀ q, q < l.length → el cs q < noneI → FarC z l q (el cs q).toNat
structure EndT (l : List St) (cs : List Int) : Prop where
 len : cs.length = l.length
 rng : ∀ q, q < l.length → 0 ≤ el cs q ∧ el cs q ≤ noneI
 run : ∀ q, q < l.length → el cs q < noneI → EndC l q (el cs q).toNat
theorem arcE_in {l : List St} {k w j : Nat} (h : ArcE l k w j) : k < l.length := by
 obtain ⟨a, ha, _⟩ := h
 exact el_in ha
theorem arcE_small {m : Mc} (h : faultM m = 0) {k w j : Nat} (e : ArcE m.2 k w j) : j < m.2.length ∧ w ≤ 1000000000 := by
 obtain ⟨a, ha, e1, rfl⟩ := e
 have h1 := (right_parts h).2 _ (el_mem (el_in ha))
 simp only [stB, Bool.and_eq_true, List.all_eq_true] at h1
 have h2 := h1.2 _ ha
 simp only [arcB, inB, Bool.and_eq_true, decide_eq_true_eq] at h2
 omega
def LstAns (P : Nat → Nat → Prop) (N : Nat) (vs : List Int) (e : Int) : Prop := (e = 0 ∧ vs.length = N ∧ ∀ q, q < N → WghAns (P q) (el vs q) 0) ∨ (e = 4 ∧ vs = [] ∧ ∃ q, q < N ∧ WghAns (P q) 0 4)
def tldN (b : Int) : Int := if b = noneI then 1000000001 else if 1000000000 < b then 0 else b
def tldE (b : Int) : Int := if b = noneI then 0 else if 1000000000 < b then 4 else 0
def mnL : List Int → Int
 | [] => noneI
 | c :: cs => if c < mnL cs then c else mnL cs
theorem mnL_none (cs : List Int) : mnL cs ≤ noneI := by
 induction cs with
 | nil => exact Int.le_refl _
 | cons c cs ih => simp only [mnL]; split <;> omega
theorem mnL_le {cs : List Int} {c : Int} (h : c ∈ cs) : mnL cs ≤ c := by
  induction cs with
  | nil => cases h
  | cons d cs ih =>
    simp only [mnL]
    rcases List.mem_cons.1 h with rfl | h
    · split <;> omega
    · have := ih h
      split <;> omega
theorem mnL_mem (cs : List Int) : mnL cs = noneI ∨ mnL cs ∈ cs := by
  induction cs with
  | nil => exact .inl rfl
  | cons d cs ih =>
    simp only [mnL]
    split
    · exact .inr List.mem_cons_self
    · rcases ih with h | h
      · exact .inl h
      · exact .inr (List.mem_cons_of_mem _ h)
theorem mnL_empty {cs : List Int} (h : ∀ c ∈ cs, c < noneI) : mnL cs = noneI ↔ cs = [] := by
  constructor
  · intro e
    cases cs with
    | nil => rfl
    | cons c cs =>
      have h1 := mnL_le (cs := c :: cs) (c := c) List.mem_cons_self
      have h2 := h c List.mem_cons_self
      omega
  · rintro rfl; rfl
theorem mnL_snoc (cs : List Int) (c : Int) (h : c ≤ noneI) : mnL (cs ++ [c]) = if c < mnL cs then c else mnL cs := by
  induction cs with
  | nil =>
    simp only [List.nil_append, mnL]
  | cons d cs ih =>
    simp only [List.cons_append, mnL]
    rw [ih]
    repeat' split
    all_goals omega
theorem mnL_one {cs : List Int} {m : Int} (h0 : m ≤ noneI) (h1 : ∀ c ∈ cs, m ≤ c) (h2 : m ∈ cs ∨ (m = noneI ∧ cs = [])) : mnL cs = m := by
 rcases h2 with h2 | ⟨rfl, rfl⟩
 ·have h3 := mnL_le h2
  rcases mnL_mem cs with h | h
  ·have := h1 m h2
   have := mnL_none cs
   omega
  ·have := h1 _ h
   omega
 ·rfl
def cosL (l : List St) (S : List Int) (i o : Int) (p : Nat) : List Int := (List.range l.length).flatMap fun q => if el S q = noneI then [] else ((el l q).2.filter fun a => decide (a.1 = i) && decide (a.2.1 = o) && decide (a.2.2.2 = (p : Int))).map fun a => el S q + a.2.2.1
theorem mem_cosL {l : List St} {S : List Int} {i o : Int} {p : Nat} {c : Int} : c ∈ cosL l S i o p ↔ ∃ q, q < l.length ∧ el S q ≠ noneI ∧ ∃ a ∈ (el l q).2, a.1 = i ∧ a.2.1 = o ∧ a.2.2.2 = (p : Int) ∧ c = el S q + a.2.2.1 := by
 unfold cosL
 rw [List.mem_flatMap]
 constructor
 ·rintro ⟨q, hq, h⟩
  rw [List.mem_range] at hq
  by_cases e : el S q = noneI
  ·rw [if_pos e] at h; cases h
  ·rw [if_neg e] at h
   obtain ⟨a, ha, rfl⟩ := List.mem_map.1 h
   rw [List.mem_filter] at ha
   simp only [Bool.and_eq_true, decide_eq_true_eq] at ha
   exact ⟨q, hq, e, a, ha.1, ha.2.1.1, ha.2.1.2, ha.2.2, rfl⟩
 ·rintro ⟨q, hq, e, a, ha, h1, h2, h3, rfl⟩
  refine ⟨q, List.mem_range.2 hq, ?_⟩
  rw [if_neg e]
  refine List.mem_map.2 ⟨a, List.mem_filter.2 ⟨ha, ?_⟩, rfl⟩
  simp [h1, h2, h3]
def behL (l : List St) (S : List Int) (i o : Int) : List Int := (List.range l.length).map fun p => mnL (cosL l S i o p)
def subS (N : List Int) (w : Int) : List Int := N.map fun c => if c = noneI then noneI else c - w
def ddR (p : Int × Int) : List (Int × Int) → List (Int × Int)
 | [] => []
 | q :: qs => if q = p then ddR q qs else q :: ddR q qs
def ddL : List (Int × Int) → List (Int × Int)
 | [] => []
 | p :: ps => p :: ddR p ps
def allA (l : List St) (S : List Int) : List Ar := (List.range l.length).flatMap fun q => if el S q = noneI then [] else (el l q).2
def prsL (l : List St) (S : List Int) : List (Int × Int) := ddL ((sortL (allA l S)).map fun a => (a.1, a.2.1))
def ltP (p q : Int × Int) : Prop := p.1 < q.1 ∨ p.1 = q.1 ∧ p.2 < q.2
def leP (p q : Int × Int) : Prop := p.1 < q.1 ∨ p.1 = q.1 ∧ p.2 ≤ q.2
theorem ddR_mem {p : Int × Int} {l : List (Int × Int)} {x : Int × Int} : x ∈ p :: ddR p l ↔ x ∈ p :: l := by
  induction l generalizing p with
  | nil => rfl
  | cons q qs ih =>
    simp only [ddR]
    split
    · rename_i e
      subst e
      rw [ih]
      simp
    · have := ih (p := q)
      simp only [List.mem_cons] at this ⊢
      rw [this]
theorem ddL_mem {l : List (Int × Int)} {x : Int × Int} : x ∈ ddL l ↔ x ∈ l := by
 cases l with
 | nil => rfl
 | cons p l => exact ddR_mem
theorem ddR_pair {p : Int × Int} {l : List (Int × Int)} (h : (p :: l).Pairwise leP) : (p :: ddR p l).Pairwise ltP := by
  induction l generalizing p with
  | nil => simp [ddR]
  | cons q qs ih =>
    rw [List.pairwise_cons] at h
    simp only [ddR]
    split
    · rename_i e
      subst e
      exact ih h.2
    · rename_i e
      have hq := ih h.2
      rw [List.pairwise_cons]
      refine ⟨fun x hx => ?_, hq⟩
      have h1 := h.1 q List.mem_cons_self
      have h2 : ltP p q := by
        rcases h1 with g | ⟨g1, g2⟩
        · exact .inl g
        · refine .inr ⟨g1, ?_⟩
          have : p.2 ≠ q.2 := fun k => e (Prod.ext g1.symm k.symm)
          omega
      rcases List.mem_cons.1 hx with rfl | hx
      · exact h2
      · have h3 := (List.pairwise_cons.1 hq).1 x hx
        unfold ltP at h2 h3 ⊢
        omega
theorem mem_allA {l : List St} {S : List Int} {a : Ar} : a ∈ allA l S ↔ ∃ q, q < l.length ∧ el S q ≠ noneI ∧ a ∈ (el l q).2 := by
 unfold allA
 rw [List.mem_flatMap]
 constructor
 ·rintro ⟨q, hq, h⟩
  by_cases e : el S q = noneI
  ·rw [if_pos e] at h; cases h
  ·rw [if_neg e] at h; exact ⟨q, List.mem_range.1 hq, e, h⟩
 ·rintro ⟨q, hq, e, h⟩
  exact ⟨q, List.mem_range.2 hq, by rw [if_neg e]; exact h⟩
theorem mem_prsL {l : List St} {S : List Int} {p : Int × Int} : p ∈ prsL l S ↔ ∃ q, q < l.length ∧ el S q ≠ noneI ∧ ∃ a ∈ (el l q).2, (a.1, a.2.1) = p := by
 unfold prsL
 rw [ddL_mem, List.mem_map]
 constructor
 ·rintro ⟨a, ha, e⟩
  rw [(sortL_perm _).mem_iff, mem_allA] at ha
  obtain ⟨q, h1, h2, h3⟩ := ha
  exact ⟨q, h1, h2, a, h3, e⟩
 ·rintro ⟨q, h1, h2, a, h3, e⟩
  exact ⟨a, (sortL_perm _).mem_iff.2 (mem_allA.2 ⟨q, h1, h2, h3⟩), e⟩
theorem prsL_pair (l : List St) (S : List Int) : (prsL l S).Pairwise ltP := by
  unfold prsL
  have h : ((sortL (allA l S)).map fun a => (a.1, a.2.1)).Pairwise leP := by
    rw [List.pairwise_map]
    refine (sortL_pair _).imp fun {a b} h => ?_
    simp only [leB, Bool.not_eq_true', aheadB_false] at h
    unfold leP
    simp only
    omega
  cases e : (sortL (allA l S)).map fun a => (a.1, a.2.1) with
  | nil => simp [ddL]
  | cons p ps =>
    rw [e] at h
    exact ddR_pair h
theorem ltP_one : ∀ {l r : List (Int × Int)}, l.Pairwise ltP → r.Pairwise ltP → (∀ p, p ∈ l ↔ p ∈ r) → l = r
  | [], [], _, _, _ => rfl
  | [], q :: r, _, _, h => by have := (h q).2 List.mem_cons_self; cases this
  | p :: l, [], _, _, h => by have := (h p).1 List.mem_cons_self; cases this
  | p :: l, q :: r, hl, hr, h => by
    rw [List.pairwise_cons] at hl hr
    have e : p = q := by
      rcases List.mem_cons.1 ((h p).1 List.mem_cons_self) with e | e
      · exact e
      · rcases List.mem_cons.1 ((h q).2 List.mem_cons_self) with g | g
        · exact g.symm
        · have h1 := hr.1 p e
          have h2 := hl.1 q g
          unfold ltP at h1 h2
          omega
    subst e
    congr 1
    refine ltP_one hl.2 hr.2 fun x => ?_
    have h1 : ∀ y, y ∈ l → y ≠ p := fun y hy e => by
      have h1 := hl.1 y hy
      rw [e] at h1
      unfold ltP at h1
      omega
    have h2 : ∀ y, y ∈ r → y ≠ p := fun y hy e => by
      have h1 := hr.1 y hy
      rw [e] at h1
      unfold ltP at h1
      omega
    constructor
    · intro hx
      rcases List.mem_cons.1 ((h x).1 (List.mem_cons_of_mem _ hx)) with g | g
      · exact absurd g (h1 x hx)
      · exact g
    · intro hx
      rcases List.mem_cons.1 ((h x).2 (List.mem_cons_of_mem _ hx)) with g | g
      · exact absurd g (h2 x hx)
      · exact g
theorem prsL_one {l : List St} {S : List Int} {r : List (Int × Int)} (hr : r.Pairwise ltP) (h : ∀ p, p ∈ r ↔ ∃ q, q < l.length ∧ el S q ≠ noneI ∧ ∃ a ∈ (el l q).2, (a.1, a.2.1) = p) : r = prsL l S :=
 ltP_one hr (prsL_pair l S) fun p => (h p).trans mem_prsL.symm
def fnsL (l : List St) (S : List Int) : List Int := (List.range l.length).flatMap fun q => if el S q = noneI ∨ (el l q).1 = 1000000001 then [] else [el S q + (el l q).1]
theorem mem_fnsL {l : List St} {S : List Int} {c : Int} : c ∈ fnsL l S ↔ ∃ q, q < l.length ∧ el S q ≠ noneI ∧ (el l q).1 ≠ 1000000001 ∧ c = el S q + (el l q).1 := by
 unfold fnsL
 rw [List.mem_flatMap]
 constructor
 ·rintro ⟨q, hq, h⟩
  by_cases e : el S q = noneI ∨ (el l q).1 = 1000000001
  ·rw [if_pos e] at h; cases h
  ·rw [if_neg e] at h
   simp only [List.mem_singleton] at h
   exact ⟨q, List.mem_range.1 hq, fun g => e (.inl g), fun g => e (.inr g), h⟩
 ·rintro ⟨q, hq, h1, h2, rfl⟩
  exact ⟨q, List.mem_range.2 hq, by rw [if_neg (fun g => g.elim h1 h2)]; simp⟩
def finC (l : List St) (S : List Int) : Int × Int := (tldN (mnL (fnsL l S)), tldE (mnL (fnsL l S)))
def hopC (l : List St) (S : List Int) (p : Int × Int) : Hg (List Int) := (p.1, p.2, mnL (behL l S p.1 p.2), subS (behL l S p.1 p.2) (mnL (behL l S p.1 p.2)))
def hopsC (l : List St) (S : List Int) : List (Hg (List Int)) := (prsL l S).map (hopC l S)
def iniS (n z : Nat) : List Int := (List.replicate n noneI).set z 0
def cerA (m : Mc) : Mc × Int := if faultM m ≠ 0 then ((0, []), faultM m) else if empB m.2 = true then ((0, []), 7) else if m.1 < 0 then ((-1, []), 0) else numA (finC m.2) (hopsC m.2) (iniS m.2.length m.1.toNat)
abbrev Tr : Type := Int × Int × Int
abbrev Hp : Type := Int × Int × Int × Tr
def hopM (x y : Ar) : Hp := (x.1, y.2.1, x.2.2.1 + y.2.2.1, x.2.2.2, y.2.2.2, 0)
def hopL (x : Ar) (b : Int) : Hp := (x.1, 0, x.2.2.1, x.2.2.2, b, 1)
def hopR (y : Ar) (a : Int) : Hp := (0, y.2.1, y.2.2.1, a, y.2.2.2, 2)
def metB (x y : Ar) (f : Int) : Bool := x.2.1 == y.1 && (decide (0 < x.2.1) || f == 0)
def expX (r : List Ar) (b f : Int) (x : Ar) : List Hp := (r.filter (metB x · f)).map (hopM x) ++ (if x.2.1 = 0 ∧ f ≠ 2 then [hopL x b] else [])
def expL (l r : List Ar) (t : Tr) : List Hp := l.flatMap (expX r t.2.1 t.2.2) ++ (if t.2.2 ≠ 1 then (r.filter (fun y => y.1 == 0)).map (hopR · t.1) else [])
inductive Hops (la lb : List St) (za zb : Nat) : List Int → List Int → Nat → Nat → Int → Nat → Prop
 | nil : Hops la lb za zb [] [] za zb 0 0
 | snoc {u v : List Int} {p q c : Nat} {f : Int} (h : Hops la lb za zb u v p q f c) {k : Hp} (hk : k ∈ expL (el la p).2 (el lb q).2 ((p : Int), (q : Int), f)) {s t : Nat} (hs : k.2.2.2.1 = (s : Int)) (ht : k.2.2.2.2.1 = (t : Int)) :
   Hops la lb za zb (u ++ lab k.1) (v ++ lab k.2.1) s t k.2.2.2.2.2 (c + k.2.2.1.toNat)
inductive WayO (l : List St) (z : Nat) : List Int → List Int → Nat → Nat → Nat → Nat → Prop
 | nil : WayO l z [] [] z 0 0 0
 | emp {u v : List Int} {p c i n : Nat} (h : WayO l z u v p c i n) {a : Ar} (ha : a ∈ (el l p).2) {t : Nat} (ht : a.2.2.2 = (t : Int)) (h0 : a.2.1 = 0) : WayO l z (u ++ lab a.1) v t (c + a.2.2.1.toNat) (i + 1) (n + 1)
 | lab {u v : List Int} {p c i n : Nat} (h : WayO l z u v p c i n) {a : Ar} (ha : a ∈ (el l p).2) {t : Nat} (ht : a.2.2.2 = (t : Int)) (h0 : a.2.1 ≠ 0) : WayO l z (u ++ lab a.1) (v ++ [a.2.1]) t (c + a.2.2.1.toNat) 0 (n + 1)
inductive WayI (l : List St) (z : Nat) : List Int → List Int → Nat → Nat → Nat → Nat → Prop
 | nil : WayI l z [] [] z 0 0 0
 | emp {u v : List Int} {p c i n : Nat} (h : WayI l z u v p c i n) {a : Ar} (ha : a ∈ (el l p).2) {t : Nat} (ht : a.2.2.2 = (t : Int)) (h0 : a.1 = 0) : WayI l z u (v ++ lab a.2.1) t (c + a.2.2.1.toNat) (i + 1) (n + 1)
 | lab {u v : List Int} {p c i n : Nat} (h : WayI l z u v p c i n) {a : Ar} (ha : a ∈ (el l p).2) {t : Nat} (ht : a.2.2.2 = (t : Int)) (h0 : a.1 ≠ 0) : WayI l z (u ++ [a.1]) (v ++ lab a.2.1) t (c + a.2.2.1.toNat) 0 (n + 1)
def bothI (a b : Int) : Int := if a = 1000000001 ∨ b = 1000000001 then 1000000001 else a + b
end Go.Proofs.YtfhjncpakgailaaGreatDoor.Pl
