/- The best path: by arcs that are no dearer than what is left, and as few as can be (no program in sight). -/
import Derived.Test.YtobhjhjfannnnaaUae
import Derived.Test.YtobhjhjfannnnaaUad
namespace Go.Proofs.Ytobhjhjfannnnaa.Pl
set_option linter.unusedVariables false
set_option linter.unusedSimpArgs false
structure FrT (l : List St) (fr : List Int) : Prop where
 len : fr.length = l.length
 val : ∀ q, q < l.length → (el fr q = 1000000001 ∧ ∀ c, ¬ EndC l q c) ∨ ∃ c : Nat, LeastP (EndC l q) c ∧ c ≤ 1000000000 ∧ el fr q = (c : Int)
def TgA (fr : List Int) (q : Nat) (a : Ar) : Prop := el fr a.2.2.2.toNat ≠ 1000000001 ∧ a.2.2.1 + el fr a.2.2.2.toNat = el fr q
def TgN (l : List St) (fr : List Int) : Nat → Nat → Prop
 | 0 => fun q => el fr q ≠ 1000000001 ∧ (el l q).1 = el fr q
 | k + 1 => fun q => ∃ a ∈ (el l q).2, TgA fr q a ∧ TgN l fr k a.2.2.2.toNat
section
variable {l : List St} {fr : List Int}
theorem FrT.some (h : FrT l fr) {q : Nat} (hq : q < l.length) (h0 : el fr q ≠ 1000000001) : ∃ c : Nat, LeastP (EndC l q) c ∧ c ≤ 1000000000 ∧ el fr q = (c : Int) := by
 rcases h.val q hq with ⟨g, _⟩ | g
 ·exact absurd g h0
 ·exact g
theorem FrT.le (h : FrT l fr) {q c : Nat} (hq : q < l.length) (hc : EndC l q c) : el fr q ≠ 1000000001 ∧ el fr q ≤ (c : Int) := by
 rcases h.val q hq with ⟨_, g⟩ | ⟨d, g1, g2, g3⟩
 ·exact absurd hc (g c)
 ·have := g1.2 c hc
  exact ⟨by omega, by omega⟩
theorem end_arc {q t c : Nat} {a : Ar} (ha : a ∈ (el l q).2) (ht : a.2.2.2 = (t : Int)) (hc : EndC l t c) : EndC l q (a.2.2.1.toNat + c) := by
 obtain ⟨n, p, d, h1, h2, h3, rfl⟩ := hc
 exact ⟨n + 1, p, a.2.2.1.toNat + d, Run.first ⟨a, ha, ht, rfl⟩ h1, h2, h3, by omega⟩
theorem TgN.path (h : FrT l fr) (hto : ∀ q, q < l.length → ∀ a ∈ (el l q).2, ∃ t : Nat, a.2.2.2 = (t : Int) ∧ t < l.length) (hw : ∀ q, q < l.length → ∀ a ∈ (el l q).2, 0 ≤ a.2.2.1) : ∀ {k q : Nat}, q < l.length → TgN l fr k q → ∃ p d, Run (ArcE l) q k p d ∧ p < l.length ∧ (el l p).1 ≠ 1000000001 ∧ (d : Int) + (el l p).1 = el fr q
  | 0, q, hq, hk => ⟨q, 0, .nil, hq, by rw [hk.2]; exact hk.1, by rw [hk.2]; omega⟩
  | k + 1, q, hq, ⟨a, ha, hg, hk⟩ => by
    obtain ⟨t, e1, e2⟩ := hto q hq a ha
    have h0 := hw q hq a ha
    unfold TgA at hg
    rw [e1, Int.toNat_natCast] at hg hk
    obtain ⟨p, d, h1, h2, h3, h4⟩ := TgN.path h hto hw e2 hk
    exact ⟨p, a.2.2.1.toNat + d, Run.first ⟨a, ha, e1, rfl⟩ h1, h2, h3, by omega⟩
theorem path_tg (h : FrT l fr) (hto : ∀ q, q < l.length → ∀ a ∈ (el l q).2, ∃ t : Nat, a.2.2.2 = (t : Int) ∧ t < l.length) (hw : ∀ q, q < l.length → ∀ a ∈ (el l q).2, 0 ≤ a.2.2.1) (hfin : ∀ q, q < l.length → 0 ≤ (el l q).1) : ∀ {k q p d : Nat}, q < l.length → Run (ArcE l) q k p d → p < l.length → (el l p).1 ≠ 1000000001 → (d : Int) + (el l p).1 = el fr q → TgN l fr k q
  | 0, q, p, d, hq, hr, hp, hf, he => by
    cases hr
    have h1 : EndC l q (el l q).1.toNat := ⟨0, q, 0, .nil, hp, hf, by omega⟩
    exact ⟨(h.le hq h1).1, by omega⟩
  | k + 1, q, p, d, hq, hr, hp, hf, he => by
    obtain ⟨t, w, c', ⟨a, ha, e1, rfl⟩, h4, rfl⟩ := hr.head
    obtain ⟨t', e2, e3⟩ := hto q hq a ha
    have et : t = t' := by omega
    subst et
    have h0 := hw q hq a ha
    have h5 := hfin p hp
    have h1 : EndC l t (c' + (el l p).1.toNat) := ⟨k, p, c', h4, hp, hf, rfl⟩
    obtain ⟨g1, g2⟩ := h.le e3 h1
    obtain ⟨c, k1, k2, k3⟩ := h.some e3 g1
    have h2 := (h.le hq (end_arc ha e1 k1.1)).2
    refine ⟨a, ha, ?_, ?_⟩
    · unfold TgA
      rw [e1, Int.toNat_natCast]
      exact ⟨g1, by omega⟩
    · rw [e1, Int.toNat_natCast]
      exact path_tg h hto hw hfin e3 h4 hp hf (by omega)
theorem tg_exists (h : FrT l fr) (hto : ∀ q, q < l.length → ∀ a ∈ (el l q).2, ∃ t : Nat, a.2.2.2 = (t : Int) ∧ t < l.length) (hw : ∀ q, q < l.length → ∀ a ∈ (el l q).2, 0 ≤ a.2.2.1) (hfin : ∀ q, q < l.length → 0 ≤ (el l q).1) {q : Nat} (hq : q < l.length) (h0 : el fr q ≠ 1000000001) : ∃ k, k < l.length ∧ TgN l fr k q := by
 obtain ⟨c, ⟨⟨n, p, d, h1, h2, h3, rfl⟩, hl⟩, _, e⟩ := h.some hq h0
 have hE : ∀ k w j, ArcE l k w j → j < l.length := fun k w j ⟨a, ha, e1, _⟩ => by
  by_cases hk : k < l.length
  ·obtain ⟨t, e2, e3⟩ := hto k hk a ha
   omega
  ·rw [show el l k = default by simp [el, List.getElem?_eq_none (Nat.le_of_not_lt hk)]] at ha
   cases ha
 obtain ⟨m, d', g1, g2, g3⟩ := Run.cheap hq hE h1
 have h5 := hfin p h2
 have h6 := hl (d' + (el l p).1.toNat) ⟨m, p, d', g3, h2, h3, rfl⟩
 exact ⟨m, g1, path_tg h hto hw hfin hq g3 h2 h3 (by omega)⟩
def LenA (l : List St) (fr : List Int) (q k : Nat) : Prop := LeastP (fun k => TgN l fr k q) k
theorem len_exists (h : FrT l fr) (hto : ∀ q, q < l.length → ∀ a ∈ (el l q).2, ∃ t : Nat, a.2.2.2 = (t : Int) ∧ t < l.length) (hw : ∀ q, q < l.length → ∀ a ∈ (el l q).2, 0 ≤ a.2.2.1) (hfin : ∀ q, q < l.length → 0 ≤ (el l q).1) {q : Nat} (hq : q < l.length) (h0 : el fr q ≠ 1000000001) : ∃ k, k < l.length ∧ LenA l fr q k := by
  obtain ⟨k, hk, hg⟩ := tg_exists h hto hw hfin hq h0
  have key : ∀ n, ∀ k, k ≤ n → TgN l fr k q → ∃ j, j ≤ k ∧ LenA l fr q j := by
    intro n
    induction n with
    | zero => intro k hk hg; exact ⟨k, Nat.le_refl _, hg, fun d hd => by omega⟩
    | succ n ih =>
      intro k hk hg
      by_cases hs : ∃ j, j < k ∧ TgN l fr j q
      · obtain ⟨j, hj, hj2⟩ := hs
        obtain ⟨i, hi, hi2⟩ := ih j (by omega) hj2
        exact ⟨i, by omega, hi2⟩
      · exact ⟨k, Nat.le_refl _, hg, fun d hd => by
          rcases Nat.lt_or_ge d k with x | x
          · exact absurd ⟨d, x, hd⟩ hs
          · exact x⟩
  obtain ⟨j, hj, hj2⟩ := key k k (Nat.le_refl _) hg
  exact ⟨j, by omega, hj2⟩
inductive BstW (l : List St) (fr : List Int) : Nat → Nat → List Nat → Prop
 | nil {q : Nat} : BstW l fr 0 q []
 | cons {k q i : Nat} {L : List Nat} (hi : i < (el l q).2.length) (ha : TgA fr q (el (el l q).2 i)) (hk : LenA l fr (el (el l q).2 i).2.2.2.toNat k) (hf : ∀ j, j < i → ¬ (TgA fr q (el (el l q).2 j) ∧ LenA l fr (el (el l q).2 j).2.2.2.toNat k)) (h : BstW l fr k (el (el l q).2 i).2.2.2.toNat L) : BstW l fr (k + 1) q (i :: L)
theorem BstW.one {k q : Nat} {L R : List Nat} (h : BstW l fr k q L) (g : BstW l fr k q R) : L = R := by
  induction h generalizing R with
  | nil => cases g; rfl
  | cons hi ha hk hf h ih =>
    cases g with
    | cons gi ga gk gf g =>
      rename_i i _ j _
      have e : i = j := by
        rcases Nat.lt_trichotomy i j with x | x | x
        · exact absurd ⟨ha, hk⟩ (gf i x)
        · exact x
        · exact absurd ⟨ga, gk⟩ (hf j x)
      subst e
      rw [ih g]
theorem BstW.len {k q : Nat} {L : List Nat} (h : BstW l fr k q L) : L.length = k := by
 induction h with
 | nil => rfl
 | cons _ _ _ _ _ ih => rw [List.length_cons, ih]
theorem LenA.arc {q k : Nat} (h : LenA l fr q (k + 1)) : ∃ i, i < (el l q).2.length ∧ TgA fr q (el (el l q).2 i) ∧ LenA l fr (el (el l q).2 i).2.2.2.toNat k := by
 obtain ⟨⟨a, ha, hg, hk⟩, hl⟩ := h
 obtain ⟨i, hi, rfl⟩ := mem_el ha
 exact ⟨i, hi, hg, hk, fun d hd => by have := hl (d + 1) ⟨_, ha, hg, hd⟩; omega⟩
end
structure LnT (l : List St) (fr : List Int) (N : Int) (ls : List Int) : Prop where
 len : ls.length = l.length
 rng : ∀ q, q < l.length → 0 ≤ el ls q ∧ el ls q ≤ N
 had : ∀ q, q < l.length → el ls q < N → TgN l fr (el ls q).toNat q
def LnLe (l : List St) (fr : List Int) (r : Nat) (ls : List Int) : Prop := ∀ k q, k ≤ r → q < l.length → TgN l fr k q → el ls q ≤ (k : Int)
def LnTo (l : List St) (fr : List Int) (r a i : Nat) (ls : List Int) : Prop := LnLe l fr r ls ∧ (∀ k q, k ≤ r → q < a → q < l.length → TgN l fr (k + 1) q → el ls q ≤ (k : Int) + 1) ∧ (∀ k j, k ≤ r → j < i → j < (el l a).2.length → TgA fr a (el (el l a).2 j) → TgN l fr k (el (el l a).2 j).2.2.2.toNat → el ls a ≤ (k : Int) + 1)
section
variable {l : List St} {fr : List Int} {N : Int} {ls : List Int}
theorem LnT.start (hN : 0 < N) (g : Nat → Bool) (hg : ∀ q, q < l.length → (g q = true ↔ TgN l fr 0 q)) : LnT l fr N ((List.range l.length).map fun q => if g q = true then 0 else N) ∧ LnLe l fr 0 ((List.range l.length).map fun q => if g q = true then 0 else N) := by
 have he : ∀ q, q < l.length → el ((List.range l.length).map fun q => if g q = true then (0 : Int) else N) q = if g q = true then 0 else N := fun q hq => el_range_map _ hq
 refine ⟨⟨by simp, fun q hq => ?_, fun q hq h => ?_⟩, fun k q hk hq h => ?_⟩
 ·rw [he q hq]; split <;> omega
 ·rw [he q hq] at h ⊢
  split at h
  ·rename_i h1
   rw [if_pos h1]
   exact (hg q hq).1 h1
  ·omega
 ·rw [show k = 0 by omega] at h
  rw [he q hq, if_pos ((hg q hq).2 h)]
  omega
theorem LnTo.start {r : Nat} (h : LnLe l fr r ls) : LnTo l fr r 0 0 ls := ⟨h, fun k q _ hq => absurd hq (Nat.not_lt_zero _), fun k j _ hj => absurd hj (Nat.not_lt_zero _)⟩
theorem LnTo.row {r a i : Nat} (h : LnTo l fr r a i ls) (hi : (el l a).2.length ≤ i) : LnTo l fr r (a + 1) 0 ls := by
 refine ⟨h.1, fun k q hk hq hl ht => ?_, fun k j _ hj => absurd hj (Nat.not_lt_zero _)⟩
 rcases Nat.lt_or_ge q a with x | x
 ·exact h.2.1 k q hk x hl ht
 ·have e : q = a := by omega
  subst e
  obtain ⟨b, hb, h1, h2⟩ := ht
  obtain ⟨j, hj, rfl⟩ := mem_el hb
  exact h.2.2 k j hk (by omega) hj h1 h2
theorem LnTo.round {r a : Nat} (h : LnTo l fr r a 0 ls) (ha : l.length ≤ a) : LnLe l fr (r + 1) ls := fun k q hk hq ht => by
 rcases Nat.lt_or_ge k (r + 1) with x | x
 ·exact h.1 k q (by omega) hq ht
 ·rw [show k = r + 1 by omega] at ht ⊢
  have := h.2.1 r q (Nat.le_refl _) (by omega) hq ht
  omega
theorem LnTo.keep {r a i t : Nat} (h : LnTo l fr r a i ls) (hT : LnT l fr N ls) (hN : (r : Int) + 1 < N) (ha : a < l.length) (ht : (el (el l a).2 i).2.2.2 = (t : Int)) (htl : t < l.length) (hn : TgA fr a (el (el l a).2 i) → el ls t < N → el ls a ≤ el ls t + 1) : LnTo l fr r a (i + 1) ls := by
 refine ⟨h.1, h.2.1, fun k j hk hj hjl h1 h2 => ?_⟩
 rcases Nat.lt_or_ge j i with x | x
 ·exact h.2.2 k j hk x hjl h1 h2
 ·rw [show j = i by omega] at h1 h2
  rw [ht, Int.toNat_natCast] at h2
  have h3 := h.1 k t hk htl h2
  have := hn h1 (by omega)
  omega
theorem LnTo.put {r a i t : Nat} (h : LnTo l fr r a i ls) (hT : LnT l fr N ls) (hN : (r : Int) + 1 < N) (ha : a < l.length) (hi : i < (el l a).2.length) (ht : (el (el l a).2 i).2.2.2 = (t : Int)) (htl : t < l.length) (hg : TgA fr a (el (el l a).2 i)) (h1 : el ls t < N) (h2 : el ls t + 1 < el ls a) : LnT l fr N (ls.set a (el ls t + 1)) ∧ LnTo l fr r a (i + 1) (ls.set a (el ls t + 1)) := by
 have hl := hT.len
 have he : ∀ q, q < l.length → el (ls.set a (el ls t + 1)) q = if q = a then el ls t + 1 else el ls q := fun q hq => by
  by_cases e : q = a
  ·subst e
   rw [if_pos rfl, el_get (by rw [List.length_set]; omega)]
   simp
  ·rw [if_neg e]
   have e2 : ¬ a = q := fun g => e g.symm
   simp only [el, List.getD_eq_getElem?_getD, List.getElem?_set_ne e2]
 have hle : ∀ q, q < l.length → el (ls.set a (el ls t + 1)) q ≤ el ls q := fun q hq => by
  rw [he q hq]; split
  ·rename_i e; subst e; omega
  ·omega
 have r1 := hT.rng t htl
 have r2 := hT.rng a ha
 refine ⟨⟨by rw [List.length_set]; exact hl, fun q hq => ?_, fun q hq hq2 => ?_⟩, fun k q hk hq g => Int.le_trans (hle q hq) (h.1 k q hk hq g), fun k q hk hq hql g => Int.le_trans (hle q hql) (h.2.1 k q hk hq hql g), fun k j hk hj hjl g1 g2 => ?_⟩
 ·rw [he q hq]; split
  ·omega
  ·exact hT.rng q hq
 ·rw [he q hq] at hq2 ⊢
  split
  ·rename_i e
   subst e
   have h3 := hT.had t htl h1
   rw [show (el ls t + 1).toNat = (el ls t).toNat + 1 by omega]
   exact ⟨_, el_mem hi, hg, by rw [ht, Int.toNat_natCast]; exact h3⟩
  ·rename_i e
   rw [if_neg e] at hq2
   exact hT.had q hq hq2
 ·rcases Nat.lt_or_ge j i with x | x
  ·exact Int.le_trans (hle a ha) (h.2.2 k j hk x hjl g1 g2)
  ·rw [show j = i by omega] at g2
   rw [ht, Int.toNat_natCast] at g2
   have := h.1 k t hk htl g2
   rw [he a ha, if_pos rfl]
   omega
theorem LnT.done (hF : FrT l fr) (hto : ∀ q, q < l.length → ∀ a ∈ (el l q).2, ∃ t : Nat, a.2.2.2 = (t : Int) ∧ t < l.length) (hw : ∀ q, q < l.length → ∀ a ∈ (el l q).2, 0 ≤ a.2.2.1) (hfin : ∀ q, q < l.length → 0 ≤ (el l q).1) (hT : LnT l fr N ls) (hN : (l.length : Int) < N) (h : LnLe l fr l.length ls) {q : Nat} (hq : q < l.length) : (el fr q = 1000000001 ∧ el ls q = N) ∨ (el fr q ≠ 1000000001 ∧ ∃ k : Nat, k < l.length ∧ LenA l fr q k ∧ el ls q = (k : Int)) := by
 by_cases h0 : el fr q = 1000000001
 ·refine .inl ⟨h0, ?_⟩
  have := hT.rng q hq
  rcases Int.lt_or_le (el ls q) N with x | x
  ·have h1 := hT.had q hq x
   obtain ⟨p, d, h2, h3, h4, h5⟩ := h1.path hF hto hw hq
   have h6 : EndC l q (d + (el l p).1.toNat) := ⟨_, p, d, h2, h3, h4, rfl⟩
   exact absurd h0 (hF.le hq h6).1
  ·omega
 ·refine .inr ⟨h0, ?_⟩
  obtain ⟨k, hk, hL⟩ := len_exists hF hto hw hfin hq h0
  refine ⟨k, hk, hL, ?_⟩
  have h1 := h k q (by omega) hq hL.1
  have h2 := hT.rng q hq
  have h3 := hL.2 _ (hT.had q hq (by omega))
  omega
end
def BestAns (m : Mc) (wt : Int) (L : List Nat) (e : Int) : Prop := ∃ vs ec, DstAns m (EndC m.2) vs ec ∧
 ((ec ≠ 0 ∧ wt = 0 ∧ L = [] ∧ e = ec) ∨ (ec = 0 ∧ (m.1 < 0 ∨ el vs m.1.toNat = 1000000001) ∧ wt = 0 ∧ L = [] ∧ e = 12) ∨
  (ec = 0 ∧ 0 ≤ m.1 ∧ el vs m.1.toNat ≠ 1000000001 ∧ wt = el vs m.1.toNat ∧ e = 0 ∧ ∃ k, LenA m.2 vs m.1.toNat k ∧ BstW m.2 vs k m.1.toNat L))
theorem BestAns.one {m : Mc} {w w' : Int} {L L' : List Nat} {e e' : Int} (h : BestAns m w L e) (k : BestAns m w' L' e') : w = w' ∧ L = L' ∧ e = e' := by
 obtain ⟨vs, ec, h0, h⟩ := h
 obtain ⟨us, fc, k0, k⟩ := k
 obtain ⟨rfl, rfl⟩ := h0.one k0
 rcases h with ⟨h1, rfl, rfl, rfl⟩ | ⟨h1, h2, rfl, rfl, rfl⟩ | ⟨h1, h2, h3, rfl, rfl, j, h4, h5⟩ <;> rcases k with ⟨k1, rfl, rfl, rfl⟩ | ⟨k1, k2, rfl, rfl, rfl⟩ | ⟨k1, k2, k3, rfl, rfl, i, k4, k5⟩
 ·exact ⟨rfl, rfl, rfl⟩
 ·exact absurd k1 h1
 ·exact absurd k1 h1
 ·exact absurd h1 k1
 ·exact ⟨rfl, rfl, rfl⟩
 ·rcases h2 with x | x
  ·omega
  ·exact absurd x k3
 ·exact absurd h1 k1
 ·rcases k2 with x | x
  ·omega
  ·exact absurd x h3
 ·have e : j = i := h4.one k4
  subst e
  exact ⟨rfl, h5.one k5, rfl⟩
def CostAns (m : Mc) (n : Int) (L : List Int) (e : Int) : Prop :=
 (faultM m ≠ 0 ∧ L = [] ∧ e = faultM m) ∨ (faultM m = 0 ∧ ¬ (0 ≤ n ∧ n ≤ 20) ∧ L = [] ∧ e = 2) ∨
 (faultM m = 0 ∧ 0 ≤ n ∧ n ≤ 20 ∧ ∃ vs ec, DstAns m (EndC m.2) vs ec ∧ ((ec ≠ 0 ∧ L = [] ∧ e = ec) ∨
  (ec = 0 ∧ m.1 < 0 ∧ L = [] ∧ e = 0) ∨ (ec = 0 ∧ 0 ≤ m.1 ∧ ∃ R, CheapN m.2 m.1.toNat n.toNat R ∧ (((∃ x ∈ R, 1000000000 < x) ∧ L = [] ∧ e = 4) ∨ ((∀ x ∈ R, x ≤ 1000000000) ∧ L = R ∧ e = 0)))))
theorem CostAns.one {m : Mc} {n : Int} {L L' : List Int} {e e' : Int} (h : CostAns m n L e) (k : CostAns m n L' e') : L = L' ∧ e = e' := by
 rcases h with ⟨h0, rfl, rfl⟩ | ⟨h0, h1, rfl, rfl⟩ | ⟨h0, h1, h2, vs, ec, h3, h⟩ <;> rcases k with ⟨k0, rfl, rfl⟩ | ⟨k0, k1, rfl, rfl⟩ | ⟨k0, k1, k2, us, fc, k3, k⟩
 ·exact ⟨rfl, rfl⟩
 ·exact absurd k0 h0
 ·exact absurd k0 h0
 ·exact absurd h0 k0
 ·exact ⟨rfl, rfl⟩
 ·exact absurd ⟨k1, k2⟩ h1
 ·exact absurd h0 k0
 ·exact absurd ⟨h1, h2⟩ k1
 ·obtain ⟨rfl, rfl⟩ := h3.one k3
  rcases h with ⟨h4, rfl, rfl⟩ | ⟨h4, h5, rfl, rfl⟩ | ⟨h4, h5, R, h6, h⟩ <;> rcases k with ⟨k4, rfl, rfl⟩ | ⟨k4, k5, rfl, rfl⟩ | ⟨k4, k5, R', k6, k⟩
  ·exact ⟨rfl, rfl⟩
  ·exact absurd k4 h4
  ·exact absurd k4 h4
  ·exact absurd h4 k4
  ·exact ⟨rfl, rfl⟩
  ·omega
  ·exact absurd h4 k4
  ·omega
  ·obtain rfl := h6.one k6
   rcases h with ⟨⟨x, hx, hx2⟩, rfl, rfl⟩ | ⟨h7, rfl, rfl⟩ <;> rcases k with ⟨⟨y, hy, hy2⟩, rfl, rfl⟩ | ⟨k7, rfl, rfl⟩
   ·exact ⟨rfl, rfl⟩
   ·have := k7 x hx; omega
   ·have := h7 y hy; omega
   ·exact ⟨rfl, rfl⟩
end Go.Proofs.Ytobhjhjfannnnaa.Pl
namespace Go.Proofs.Ytobhjhjfannnnaa.Pl
set_option linter.unusedVariables false
theorem insS_app1 {x : Int} {T : List Int} (h : ∀ z ∈ T, ¬ x < z) (r : List Int) : insS x (T ++ r) = T ++ insS x r := by
  induction T with
  | nil => rfl
  | cons y T ih =>
    rw [List.cons_append]
    show (if x < y then _ else _) = _
    rw [if_neg (h y (List.mem_cons_self ..)), ih fun z hz => h z (List.mem_cons_of_mem _ hz)]
    rfl
theorem insS_app2 {x : Int} {T : List Int} (h : ∃ z ∈ T, x < z) (r : List Int) : insS x (T ++ r) = insS x T ++ r := by
  induction T with
  | nil => obtain ⟨z, hz, _⟩ := h; cases hz
  | cons y T ih =>
    rw [List.cons_append]
    show (if x < y then _ else _) = (if x < y then _ else _) ++ r
    by_cases g : x < y
    · rw [if_pos g, if_pos g]; rfl
    · rw [if_neg g, if_neg g, ih]
      · rfl
      · obtain ⟨z, hz, h1⟩ := h
        rcases List.mem_cons.1 hz with rfl | hz
        · exact absurd h1 g
        · exact ⟨z, hz, h1⟩
def InsP (x : Int) (T P : List Int) (d : Bool) : Prop := (d = false ∧ (∀ z ∈ T, ¬ x < z) ∧ P = T) ∨ (d = true ∧ (∃ z ∈ T, x < z) ∧ P = insS x T)
theorem InsP.nil (x : Int) : InsP x [] [] false := .inl ⟨rfl, fun z hz => absurd hz (by simp), rfl⟩
theorem InsP.skip {x y : Int} {T P : List Int} (h : InsP x T P false) (hy : ¬ x < y) : InsP x (T ++ [y]) (P ++ [y]) false := by
 rcases h with ⟨_, h1, rfl⟩ | ⟨h0, _⟩
 ·refine .inl ⟨rfl, fun z hz => ?_, rfl⟩
  rcases List.mem_append.1 hz with hz | hz
  ·exact h1 z hz
  ·rw [List.mem_singleton.1 hz]; exact hy
 ·cases h0
theorem InsP.put {x y : Int} {T P : List Int} (h : InsP x T P false) (hy : x < y) : InsP x (T ++ [y]) ((P ++ [x]) ++ [y]) true := by
 rcases h with ⟨_, h1, rfl⟩ | ⟨h0, _⟩
 ·refine .inr ⟨rfl, ⟨y, by simp, hy⟩, ?_⟩
  rw [insS_app1 h1]
  simp [insS, hy]
 ·cases h0
theorem InsP.more {x : Int} (y : Int) {T P : List Int} (h : InsP x T P true) : InsP x (T ++ [y]) (P ++ [y]) true := by
 rcases h with ⟨h0, _⟩ | ⟨_, h1, rfl⟩
 ·cases h0
 ·obtain ⟨z, hz, h2⟩ := h1
  exact .inr ⟨rfl, ⟨z, List.mem_append_left _ hz, h2⟩, (insS_app2 ⟨z, hz, h2⟩ _).symm⟩
theorem InsP.endF {x : Int} {T P : List Int} (h : InsP x T P false) : P ++ [x] = insS x T := by
 rcases h with ⟨_, h1, rfl⟩ | ⟨h0, _⟩
 ·have := insS_app1 h1 []
  rw [List.append_nil] at this
  rw [this]; rfl
 ·cases h0
theorem InsP.endT {x : Int} {T P : List Int} (h : InsP x T P true) : P = insS x T := by
 rcases h with ⟨h0, _⟩ | ⟨_, _, h1⟩
 ·cases h0
 ·exact h1
theorem InsP.len {x : Int} {T P : List Int} {d : Bool} (h : InsP x T P d) : P.length ≤ T.length + 1 := by
 rcases h with ⟨_, _, rfl⟩ | ⟨_, _, rfl⟩
 ·omega
 ·rw [insS_len]; omega
theorem InsN.len {n : Nat} {P : Nat → Nat} {L : List Int} (h : InsN n P L) : L.length ≤ n := by
 obtain ⟨a, ha⟩ := cLe_big (l := L)
 rw [← ha a (Int.le_refl _), h.cnt]
 omega
theorem RndN.len {l : List St} {k q n : Nat} {L : List Int} (h : RndN l k q n L) : L.length ≤ n := by
 obtain ⟨a, ha⟩ := cLe_big (l := L)
 rw [← ha a (Int.le_refl _), h.cnt]
 omega
theorem ins_le {x B : Int} {L : List Int} {n : Nat} (hx : x ≤ B) (hL : ∀ y ∈ L, y ≤ B) : ∀ y ∈ (insS x L).take n, y ≤ B := fun y hy => by
 rcases List.mem_cons.1 ((insS_perm x L).mem_iff.1 (List.mem_of_mem_take hy)) with rfl | g
 ·exact hx
 ·exact hL y g
theorem InsN.fin {l : List St} {q n : Nat} (h0 : 0 ≤ (el l q).1) (h1 : (el l q).1 ≠ 1000000001) (k : Nat) (ar : List Ar) : InsN n (fun c => fE l q c + sA l k (ar.take 0) c) ((insS (el l q).1 []).take n) := by
 refine ((InsN.nil n).ins h0).congr fun c => ?_
 simp only [sA, List.take_zero, List.map_nil, List.sum_nil, Nat.add_zero, Nat.zero_add, fE]
 by_cases g : (el l q).1 ≤ (c : Int)
 ·rw [if_pos g, if_pos ⟨h1, by omega⟩]
 ·rw [if_neg g, if_neg (fun x => g (by omega))]
theorem InsN.nofin {l : List St} {q n : Nat} (h1 : (el l q).1 = 1000000001) (k : Nat) (ar : List Ar) : InsN n (fun c => fE l q c + sA l k (ar.take 0) c) [] := by
 refine (InsN.nil n).congr fun c => ?_
 simp only [sA, List.take_zero, List.map_nil, List.sum_nil, Nat.add_zero, fE]
 rw [if_neg (fun x => x.1 h1)]
theorem InsN.up {n j : Nat} {P : Nat → Nat} {T L : List Int} {w : Int} (hj : j < T.length) (hp : 0 ≤ el T j + w) (h : InsN n (fun c => P c + cUp T w j c) L) : InsN n (fun c => P c + cUp T w (j + 1) c) ((insS (el T j + w) L).take n) :=
 (h.ins hp).congr fun c => by rw [cUp_succ hj]; simp only [Nat.add_assoc]
theorem InsN.up0 {n : Nat} {P : Nat → Nat} {T L : List Int} {w : Int} (h : InsN n P L) : InsN n (fun c => P c + cUp T w 0 c) L := h.congr fun c => by rw [cUp_zero, Nat.add_zero]
theorem right_nums {m : Mc} (hr : faultM m = 0) {q : Nat} (hq : q < m.2.length) : 0 ≤ (el m.2 q).1 ∧ (el m.2 q).1 ≤ 1000000001 ∧ ∀ i, i < (el m.2 q).2.length → 0 ≤ (el (el m.2 q).2 i).2.2.1 ∧ (el (el m.2 q).2 i).2.2.1 ≤ 1000000000 ∧ ∃ t : Nat, (el (el m.2 q).2 i).2.2.2 = (t : Int) ∧ t < m.2.length := by
 have h1 := (right_parts hr).2 _ (el_mem hq)
 simp only [stB, Bool.and_eq_true, List.all_eq_true] at h1
 have h0 := h1.1
 simp only [finB, inB, Bool.and_eq_true, Bool.or_eq_true, decide_eq_true_eq] at h0
 refine ⟨by omega, by omega, fun i hi => ?_⟩
 have h2 := h1.2 _ (el_mem hi)
 simp only [arcB, inB, Bool.and_eq_true, decide_eq_true_eq] at h2
 exact ⟨by omega, by omega, (el (el m.2 q).2 i).2.2.2.toNat, by omega, by omega⟩
end Go.Proofs.Ytobhjhjfannnnaa.Pl
namespace Go.Proofs.Ytobhjhjfannnnaa.Pl
set_option linter.unusedVariables false
set_option linter.unusedSimpArgs false
def kA (k : Int) : Int := k / 2147483648
def kB (k : Int) : Int := k % 2147483648
def noK : Int := 2147483651147483649
def capK : Int := 2147483650147483648
def KeyOk (x : Int) : Prop := x = noK ∨ (0 ≤ kA x ∧ kA x ≤ 1000000000 ∧ 0 ≤ kB x ∧ kB x ≤ 1000000000)
def bothK (x y : Int) : Int := if kA x + kA y ≤ 1000000000 ∧ kB x + kB y ≤ 1000000000 then x + y else noK
theorem key_mk {a b : Int} (h0 : 0 ≤ b) (h1 : b < 2147483648) : kA (a * 2147483648 + b) = a ∧ kB (a * 2147483648 + b) = b := by unfold kA kB; omega
theorem key_less (x y : Int) : x < y ↔ kA x < kA y ∨ (kA x = kA y ∧ kB x < kB y) := by unfold kA kB; omega
theorem key_eq (x y : Int) : x = y ↔ kA x = kA y ∧ kB x = kB y := by unfold kA kB; omega
theorem noK_parts : kA noK = 1000000001 ∧ kB noK = 1000000001 := by decide
theorem bothK_le {x s c : Int} (hx : KeyOk x) (hb : x = noK ∨ kB x ≤ 1000000) (hs : 0 ≤ kA s ∧ kA s ≤ 1000000000 ∧ 0 ≤ kB s ∧ kB s ≤ 1) (hc : c < capK) : bothK x s ≤ c ↔ x + s ≤ c := by
 unfold bothK KeyOk noK capK kA kB at *
 split <;> omega
theorem bothK_ge {x s : Int} (hx : KeyOk x) (hs : 0 ≤ kA s ∧ kA s ≤ 1000000000 ∧ 0 ≤ kB s ∧ kB s ≤ 1) : x ≤ bothK x s := by
 unfold bothK KeyOk noK kA kB at *
 split <;> omega
theorem bothK_ok {x s : Int} (hx : KeyOk x) (hs : KeyOk s) : KeyOk (bothK x s) ∧ (bothK x s = noK ∨ kB (bothK x s) = kB x + kB s) := by
 unfold bothK KeyOk noK kA kB at *
 split
 ·refine ⟨.inr ?_, .inr ?_⟩ <;> omega
 ·exact ⟨.inl rfl, .inl rfl⟩
def arS (a : Ar) : Ar := (a.2.2.2, 0, 0, a.2.2.1 * 2147483648 + 1)
def onS (l : List St) (q : Nat) : List Ar := (el l q).2.map arS ++ if (el l q).1 = 1000000001 then [] else [((l.length : Int), 0, 0, (el l q).1 * 2147483648)]
def onL (l : List St) : List (List Ar) := (List.range l.length).map (onS l) ++ [[]]
theorem onL_len (l : List St) : (onL l).length = l.length + 1 := by simp [onL]
theorem onL_el {l : List St} {q : Nat} (h : q < l.length) : el (onL l) q = onS l q := by
 unfold onL
 rw [el_left (by simpa using h), el_range_map _ h]
theorem onL_end (l : List St) : el (onL l) l.length = [] := by
 unfold onL
 simp [el]
def trS (S : List (List Ar)) (n p : Nat) : List Ar := (List.range n).flatMap fun q => (el S q).flatMap fun s => if s.1 = (p : Int) then [((q : Int), 0, 0, s.2.2.2)] else []
def trL (S : List (List Ar)) : List (List Ar) := (List.range S.length).map (trS S S.length)
theorem trL_len (S : List (List Ar)) : (trL S).length = S.length := by simp [trL]
theorem trL_el {S : List (List Ar)} {p : Nat} (h : p < S.length) : el (trL S) p = trS S S.length p := el_range_map _ h
structure RgtL (l : List St) : Prop where
 fin : ∀ q, q < l.length → 0 ≤ (el l q).1 ∧ (el l q).1 ≤ 1000000001
 arc : ∀ q, q < l.length → ∀ a ∈ (el l q).2, 0 ≤ a.2.2.1 ∧ a.2.2.1 ≤ 1000000000 ∧ ∃ t : Nat, a.2.2.2 = (t : Int) ∧ t < l.length
theorem RgtL.of {m : Mc} (hr : faultM m = 0) : RgtL m.2 :=
 ⟨fun q hq => ⟨(right_nums hr hq).1, (right_nums hr hq).2.1⟩, fun q hq a ha => by
  obtain ⟨i, hi, rfl⟩ := mem_el ha
  exact (right_nums hr hq).2.2 i hi⟩
def StpOk (N : Nat) (s : Ar) : Prop := (0 ≤ kA s.2.2.2 ∧ kA s.2.2.2 ≤ 1000000000 ∧ 0 ≤ kB s.2.2.2 ∧ kB s.2.2.2 ≤ 1) ∧ ∃ t : Nat, s.1 = (t : Int) ∧ t < N
theorem StpOk.pos {N : Nat} {s : Ar} (h : StpOk N s) : 0 ≤ s.2.2.2 := by
 have h1 := h.1
 unfold kA kB at h1
 omega
theorem StpOk.key {N : Nat} {s : Ar} (h : StpOk N s) : KeyOk s.2.2.2 := .inr (by have := h.1; omega)
def StsOk (S : List (List Ar)) : Prop := ∀ q, q < S.length → ∀ s ∈ el S q, StpOk S.length s
theorem StsOk.hw {S : List (List Ar)} (h : StsOk S) : ∀ j, j < S.length → ∀ s ∈ el S j, 0 ≤ s.2.2.2 ∧ ∃ t : Nat, s.1 = (t : Int) ∧ t < S.length := fun j hj s hs => ⟨(h j hj s hs).pos, (h j hj s hs).2⟩
theorem onS_mem {l : List St} {q : Nat} {s : Ar} (h : s ∈ onS l q) : (∃ a ∈ (el l q).2, s = arS a) ∨ ((el l q).1 ≠ 1000000001 ∧ s = ((l.length : Int), 0, 0, (el l q).1 * 2147483648)) := by
 rcases List.mem_append.1 h with h | h
 ·obtain ⟨a, ha, rfl⟩ := List.mem_map.1 h
  exact .inl ⟨a, ha, rfl⟩
 ·split at h
  ·cases h
  ·rename_i g
   exact .inr ⟨g, List.mem_singleton.1 h⟩
theorem onL_ok {l : List St} (h : RgtL l) : StsOk (onL l) := fun q hq s hs => by
 rw [onL_len] at hq ⊢
 by_cases hl : q < l.length
 ·rw [onL_el hl] at hs
  rcases onS_mem hs with ⟨a, ha, rfl⟩ | ⟨g, rfl⟩
  ·obtain ⟨h0, h1, t, e, ht⟩ := h.arc q hl a ha
   refine ⟨?_, t, e, by omega⟩
   unfold arS kA kB
   simp only
   omega
  ·obtain ⟨h0, h1⟩ := h.fin q hl
   refine ⟨?_, l.length, rfl, by omega⟩
   unfold kA kB
   simp only
   omega
 ·rw [show q = l.length by omega, onL_end] at hs
  cases hs
theorem trS_mem {S : List (List Ar)} {n p : Nat} {s : Ar} (h : s ∈ trS S n p) : ∃ q, q < n ∧ s.1 = (q : Int) ∧ ∃ r ∈ el S q, s.2.2.2 = r.2.2.2 ∧ r.1 = (p : Int) := by
 unfold trS at h
 obtain ⟨q, hq, h⟩ := List.mem_flatMap.1 h
 obtain ⟨r, hr, h⟩ := List.mem_flatMap.1 h
 split at h
 ·rename_i g
  rw [List.mem_singleton] at h
  subst h
  exact ⟨q, List.mem_range.1 hq, rfl, r, hr, rfl, g⟩
 ·cases h
theorem trL_ok {S : List (List Ar)} (h : StsOk S) : StsOk (trL S) := fun p hp s hs => by
 rw [trL_len] at hp ⊢
 rw [trL_el hp] at hs
 obtain ⟨q, hq, e, r, hr, e2, _⟩ := trS_mem hs
 refine ⟨?_, q, e, hq⟩
 rw [e2]
 exact (h q hq r hr).1
theorem sum_flat {α β : Type} (L : List α) (f : α → List β) (g : β → Nat) : ((L.flatMap f).map g).sum = (L.map fun a => ((f a).map g).sum).sum := by
 induction L with
 | nil => rfl
 | cons a L ih => rw [List.flatMap_cons, List.map_append, List.sum_append, ih]; rfl
theorem sumS_tr {S : List (List Ar)} (h : StsOk S) {p : Nat} (hp : p < S.length) (g : Nat → Int → Nat) : sumS (trL S) p g = ((el S p).map fun s => g s.1.toNat s.2.2.2).sum := by
 unfold sumS
 rw [trL_len]
 have e1 : ((List.range S.length).map fun (q : Nat) => ((el (trL S) q).map fun s => if s.1 = (p : Int) then g q s.2.2.2 else 0).sum) = (List.range S.length).map fun (q : Nat) => ((el S p).map fun s => if s.1 = (q : Int) then g q s.2.2.2 else 0).sum := by
  refine List.map_congr_left fun q hq => ?_
  rw [trL_el (List.mem_range.1 hq)]
  unfold trS
  rw [sum_flat, ← sumN_one hp fun j => ((el S j).map fun s => if s.1 = (q : Int) then g q s.2.2.2 else 0).sum]
  congr 1
  refine List.map_congr_left fun j _ => ?_
  rw [sum_flat]
  by_cases e : j = p
  ·subst e
   rw [if_pos rfl]
   congr 1
   refine List.map_congr_left fun s _ => ?_
   by_cases e2 : s.1 = (q : Int) <;> simp [e2]
  ·rw [if_neg e]
   refine sum_none fun s _ => ?_
   have e3 : ¬ (j : Int) = (p : Int) := by omega
   by_cases e2 : s.1 = (q : Int) <;> simp [e2, e3]
 rw [e1, sumN_swap]
 congr 1
 refine List.map_congr_left fun s hs => ?_
 obtain ⟨t, e, ht⟩ := (h p hp s hs).2
 rw [e, Int.toNat_natCast, ← sumN_one ht fun j => g j s.2.2.2]
 congr 1
 refine List.map_congr_left fun j _ => ?_
 by_cases e2 : j = t
 ·subst e2; simp
 ·have e3 : ¬ (t : Int) = (j : Int) := by omega
  simp [e2, e3]
structure XP (l : List St) (X : Nat → Nat → Int → Nat) : Prop where
 zero : ∀ p c, X 0 p c = 0
 fin : ∀ k c, X (k + 1) l.length c = if 0 ≤ c then 1 else 0
 step : ∀ k p c, p < l.length → X (k + 1) p c = ((onS l p).map fun s => X k s.1.toNat (c - s.2.2.2)).sum
theorem XP.fro {l : List St} (h : RgtL l) : XP l fun k p c => wC (onL l) p k l.length c := by
 have hs : ∀ j, j < (onL l).length → ∀ s ∈ el (onL l) j, ∃ t : Nat, s.1 = (t : Int) ∧ t < (onL l).length := fun j hj s hs => (onL_ok h j hj s hs).2
 refine ⟨fun _ _ => rfl, fun k c => ?_, fun k p c hp => ?_⟩
 ·show wC (onL l) l.length (k + 1) l.length c = _
  rw [wC_front hs (by rw [onL_len]; omega), onL_end]
  simp [atS]
 ·show wC (onL l) p (k + 1) l.length c = _
  rw [wC_front hs (by rw [onL_len]; omega), onL_el hp]
  have : atS p l.length c = 0 := by unfold atS; rw [if_neg (by omega)]
  rw [this, Nat.zero_add]
theorem XP.bak {l : List St} (h : RgtL l) : XP l fun k p c => wC (trL (onL l)) l.length k p c := by
 refine ⟨fun _ _ => rfl, fun k c => ?_, fun k p c hp => ?_⟩
 ·show wC (trL (onL l)) l.length (k + 1) l.length c = _
  rw [wC_succ, sumS_tr (onL_ok h) (by rw [onL_len]; omega), onL_end]
  simp [atS]
 ·show wC (trL (onL l)) l.length (k + 1) p c = _
  rw [wC_succ, sumS_tr (onL_ok h) (by rw [onL_len]; omega), onL_el hp]
  have : atS l.length p c = 0 := by unfold atS; rw [if_neg (by omega)]
  rw [this, Nat.zero_add]
section
variable {l : List St} {X : Nat → Nat → Int → Nat}
theorem XP.row (hX : XP l X) {k p : Nat} {c : Int} (hp : p < l.length) : X (k + 2) p c = ((el l p).2.map fun a => X (k + 1) a.2.2.2.toNat (c - (a.2.2.1 * 2147483648 + 1))).sum + if (el l p).1 ≠ 1000000001 ∧ (el l p).1 * 2147483648 ≤ c then 1 else 0 := by
 rw [hX.step (k + 1) p c hp]
 unfold onS
 rw [List.map_append, List.sum_append, List.map_map]
 congr 1
 by_cases h : (el l p).1 = 1000000001
 ·rw [if_pos h, if_neg (fun g => g.1 h)]; rfl
 ·rw [if_neg h]
  simp only [List.map_cons, List.map_nil, List.sum_cons, List.sum_nil, Nat.add_zero, Int.toNat_natCast]
  rw [hX.fin]
  by_cases g : (el l p).1 * 2147483648 ≤ c
  ·rw [if_pos (by omega), if_pos ⟨h, g⟩]
  ·rw [if_neg (by omega), if_neg (fun x => g x.2)]
theorem XP.one (hX : XP l X) (hR : RgtL l) {p : Nat} {c : Int} (hp : p < l.length) : X 1 p c = 0 := by
 rw [hX.step 0 p c hp]
 exact sum_none fun s _ => hX.zero _ _
theorem XP.neg (hX : XP l X) (hR : RgtL l) : ∀ k p c, p < l.length → c < 0 → X k p c = 0
  | 0, p, c, _, _ => hX.zero p c
  | 1, p, c, hp, _ => hX.one hR hp
  | k + 2, p, c, hp, hc => by
    rw [hX.row hp, if_neg (by have := hR.fin p hp; omega), Nat.add_zero]
    refine sum_none fun a ha => ?_
    obtain ⟨h0, h1, t, e, ht⟩ := hR.arc p hp a ha
    rw [e, Int.toNat_natCast]
    exact XP.neg hX hR (k + 1) t _ ht (by omega)
theorem XP.cnt (hX : XP l X) (hR : RgtL l) : ∀ (k p c : Nat) (r : Int), p < l.length → (k : Int) ≤ r → r < 2147483648 → X (k + 1) p ((c : Int) * 2147483648 + r) = sN l k p c
  | 0, p, c, r, hp, _, _ => by rw [hX.one hR hp, sN_zero]
  | k + 1, p, c, r, hp, h0, h1 => by
    rw [hX.row hp, sN_front, Nat.add_comm]
    have hf := hR.fin p hp
    congr 1
    · unfold fE
      by_cases g : (el l p).1 ≠ 1000000001 ∧ (el l p).1.toNat ≤ c
      · rw [if_pos g, if_pos ⟨g.1, by omega⟩]
      · rw [if_neg g, if_neg (fun x => g ⟨x.1, by have := x.2; omega⟩)]
    · congr 1
      refine List.map_congr_left fun a ha => ?_
      obtain ⟨w0, w1, t, e, ht⟩ := hR.arc p hp a ha
      rw [e, Int.toNat_natCast]
      split
      · rename_i g
        rw [show (c : Int) * 2147483648 + r - (a.2.2.1 * 2147483648 + 1) = ((c - a.2.2.1.toNat : Nat) : Int) * 2147483648 + (r - 1) by omega]
        exact XP.cnt hX hR k t _ _ ht (by omega) (by omega)
      · rename_i g
        exact hX.neg hR _ t _ ht (by omega)
theorem sum_posI {L : List Nat} : 0 < L.sum ↔ ∃ x ∈ L, 0 < x := ⟨sum_pos, fun ⟨x, hx, h⟩ => Nat.lt_of_lt_of_le h (sum_ge hx)⟩
theorem XP.pos (hX : XP l X) (hR : RgtL l) : ∀ k p c, p < l.length → (0 < X (k + 1) p c ↔ ∃ j q d, j < k ∧ Run (ArcE l) p j q d ∧ q < l.length ∧ (el l q).1 ≠ 1000000001 ∧ ((d : Int) + (el l q).1) * 2147483648 + (j : Int) ≤ c)
  | 0, p, c, hp => by
    rw [hX.one hR hp]
    constructor
    · intro h; cases h
    · rintro ⟨j, _, _, h, _⟩; cases h
  | k + 1, p, c, hp => by
    rw [hX.row hp]
    constructor
    · intro h
      by_cases h0 : (el l p).1 ≠ 1000000001 ∧ (el l p).1 * 2147483648 ≤ c
      · exact ⟨0, p, 0, by omega, .nil, hp, h0.1, by omega⟩
      · rw [if_neg h0, Nat.add_zero] at h
        obtain ⟨x, hx, hx0⟩ := sum_posI.1 h
        obtain ⟨a, ha, rfl⟩ := List.mem_map.1 hx
        obtain ⟨w0, w1, t, e, ht⟩ := hR.arc p hp a ha
        rw [e, Int.toNat_natCast] at hx0
        obtain ⟨j, q, d, h1, h2, h3, h4, h5⟩ := (XP.pos hX hR k t _ ht).1 hx0
        exact ⟨j + 1, q, a.2.2.1.toNat + d, by omega, Run.first ⟨a, ha, e, rfl⟩ h2, h3, h4, by omega⟩
    · rintro ⟨j, q, d, h1, h2, h3, h4, h5⟩
      cases j with
      | zero =>
        cases h2
        rw [if_pos ⟨h4, by omega⟩]
        omega
      | succ j =>
        obtain ⟨t, w, d', ⟨a, ha, e1, rfl⟩, g4, rfl⟩ := h2.head
        obtain ⟨w0, w1, t', f1, f2⟩ := hR.arc p hp a ha
        have ej : t = t' := by omega
        subst ej
        have : 0 < X (k + 1) t (c - (a.2.2.1 * 2147483648 + 1)) := (XP.pos hX hR k t _ f2).2 ⟨j, q, d', by omega, g4, h3, h4, by omega⟩
        have h6 : 0 < ((el l p).2.map fun a => X (k + 1) a.2.2.2.toNat (c - (a.2.2.1 * 2147483648 + 1))).sum := sum_posI.2 ⟨_, List.mem_map.2 ⟨a, ha, rfl⟩, by rw [e1, Int.toNat_natCast]; exact this⟩
        omega
end
end Go.Proofs.Ytobhjhjfannnnaa.Pl
