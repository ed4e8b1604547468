/- slices.CompactFunc at arcs of the call's own: the walk. -/
import Derived.Test.YtbiecfnhjfdkcaaAc
namespace Go.Proofs.Ytbiecfnhjfdkcaa.Wt
open Go.ChangeShapes Go.WideShapes Go.ChangeAt Go.RowKit
open Go.Proofs.Ytbiecfnhjfdkcaa.Pl
set_option linter.unusedVariables false
set_option linter.unusedSimpArgs false
theorem wrapD {n : Int} (h0 : -9223372036854775808 ≤ n) (h1 : n ≤ 9223372036854775807) : IntKind.i64.wrap n = n := by
  have h64 : IntKind.i64.wrap n = if n % 18446744073709551616 ≥ 9223372036854775808 then n % 18446744073709551616 - 18446744073709551616 else n % 18446744073709551616 := by
    simp [IntKind.wrap, IntKind.bits, IntKind.signed]
  rw [h64]
  split <;> omega
/-- Four cells of an arc. -/
def Four (w : World) (b o : Nat) (a : Ar) : Prop := w.cell? ⟨b, o, none⟩ = some (.int .i64 a.1) ∧ w.cell? ⟨b, o + 1, none⟩ = some (.int .i64 a.2.1) ∧ w.cell? ⟨b, o + 2, none⟩ = some (.int .i64 a.2.2.1) ∧ w.cell? ⟨b, o + 3, none⟩ = some (.int .i64 a.2.2.2)
def HeldE (b o1 o2 : Nat) (x y : Ar) (w : World) : Prop := Four w b o1 x ∧ Four w b o2 y
theorem Four.later {w w' : World} {b o B : Nat} {a : Ar} (h : Four w b o a) (hb : Below B w w') (hB : b < B) : Four w' b o a := ⟨(hb.cell hB).trans h.1, (hb.cell hB).trans h.2.1, (hb.cell hB).trans h.2.2.1, (hb.cell hB).trans h.2.2.2⟩
/-- A row of arcs, and what lies behind it, in one block. -/
theorem blk_four {w : World} {g : Nat} {d : List Ar} {rest : List Value} (h : Blk w g (d.flatMap encA ++ rest).toArray 43) {j : Nat} (hj : j < d.length) : Four w g (j * 4) (el d j) := by
  have hl : (d.flatMap encA).length = d.length * 4 := flat_length encA_len d
  have hc : ∀ i, i < 4 → ∀ u, (encA (el d j))[i]? = some u → w.cell? ⟨g, j * 4 + i, none⟩ = some u := fun i hi u hu => by
    refine h.cell _ ?_
    rw [List.getElem?_toArray, List.getElem?_append_left (by rw [hl]; omega), flat_at encA_len d j hj i hi]
    exact hu
  exact ⟨hc 0 (by omega) _ rfl, hc 1 (by omega) _ rfl, hc 2 (by omega) _ rfl, hc 3 (by omega) _ rfl⟩
theorem set_arc {d : List Ar} {rest : List Value} {k : Nat} (hk : k < d.length) (p : Ar) :
    ((((d.flatMap encA ++ rest).toArray.setIfInBounds (k * 4) (.int .i64 p.1)).setIfInBounds (k * 4 + 1) (.int .i64 p.2.1)).setIfInBounds (k * 4 + 2) (.int .i64 p.2.2.1)).setIfInBounds (k * 4 + 3) (.int .i64 p.2.2.2) = ((d.set k p).flatMap encA ++ rest).toArray := by
  apply Array.ext_getElem?
  intro t
  have hl : (d.flatMap encA).length = d.length * 4 := flat_length encA_len d
  have hl2 : ((d.set k p).flatMap encA).length = d.length * 4 := by rw [flat_length encA_len]; simp
  rw [Array.getElem?_setIfInBounds, Array.getElem?_setIfInBounds, Array.getElem?_setIfInBounds, Array.getElem?_setIfInBounds]
  simp only [List.getElem?_toArray, Array.size_setIfInBounds, List.size_toArray, List.length_append, hl]
  by_cases ht : t < d.length * 4
  · have he : t / 4 * 4 + t % 4 = t := by omega
    have h1 := flat_at encA_len d (t / 4) (by omega) (t % 4) (by omega)
    have h2 := flat_at encA_len (d.set k p) (t / 4) (by simp; omega) (t % 4) (by omega)
    rw [he] at h1 h2
    rw [List.getElem?_append_left (by omega), List.getElem?_append_left (by omega), h1, h2]
    by_cases hq : t / 4 = k
    · have hel : el (d.set k p) (t / 4) = p := by rw [hq, el_get (by simpa using hk)]; simp
      rw [hel]
      have h01 : t = k * 4 ∨ t = k * 4 + 1 ∨ t = k * 4 + 2 ∨ t = k * 4 + 3 := by omega
      rcases h01 with h | h | h | h
      · have e0 : t % 4 = 0 := by omega
        rw [if_neg (by omega), if_neg (by omega), if_neg (by omega), if_pos h.symm, if_pos (by omega), e0]; rfl
      · have e0 : t % 4 = 1 := by omega
        rw [if_neg (by omega), if_neg (by omega), if_pos h.symm, if_pos (by omega), e0]; rfl
      · have e0 : t % 4 = 2 := by omega
        rw [if_neg (by omega), if_pos h.symm, if_pos (by omega), e0]; rfl
      · have e0 : t % 4 = 3 := by omega
        rw [if_pos h.symm, if_pos (by omega), e0]; rfl
    · have hel : el (d.set k p) (t / 4) = el d (t / 4) := by simp [el, List.getElem?_set_ne (Ne.symm hq)]
      rw [hel, if_neg (by omega), if_neg (by omega), if_neg (by omega), if_neg (by omega)]
  · rw [if_neg (by omega), if_neg (by omega), if_neg (by omega), if_neg (by omega), List.getElem?_append_right (by omega), List.getElem?_append_right (by omega), hl, hl2]
theorem lightFrom_all {p : Ar} {l : List Ar} (h : ∀ j, j < l.length → alikeB (el l j) (el (p :: l) j) = false) : lightFrom p l = l := by
  induction l generalizing p with
  | nil => rfl
  | cons x l ih =>
    have h0 := h 0 (by simp)
    rw [el_zero, el_zero] at h0
    rw [lightFrom, h0, if_neg (by simp), ih]
    intro j hj
    have := h (j + 1) (by simpa using hj)
    rwa [el_succ, el_succ] at this
/-- No two neighbours alike: nothing goes. -/
theorem lightL_all {l : List Ar} (h : ∀ j, j + 1 < l.length → alikeB (el l (j + 1)) (el l j) = false) : lightL l = l := by
  cases l with
  | nil => rfl
  | cons a l =>
    rw [lightL, lightFrom_all]
    intro j hj
    have := h j (by simpa using hj)
    rwa [el_succ] at this
theorem light_first {l : List Ar} {d : Nat} (hd : d + 1 < l.length) (h : ∀ j, j < d → alikeB (el l (j + 1)) (el l j) = false) (ha : alikeB (el l (d + 1)) (el l d) = true) : l.take (d + 1) = lightL (l.take (d + 2)) := by
  rw [lightL_take hd, ha, if_pos rfl, List.append_nil, lightL_all]
  intro j hj
  rw [List.length_take] at hj
  rw [el_take (by omega), el_take (by omega)]
  exact h j (by omega)
/-- What is so while arcs are moved down. -/
structure Moved (l : List Ar) (K e kk : Nat) (dl : List Ar) : Prop where
  len : dl.length = l.length
  le : kk ≤ K + e
  take : dl.take kk = lightL (l.take (K + e + 1))
  high : ∀ j, K + e ≤ j → j < l.length → el dl j = el l j
theorem Moved.skip {l dl : List Ar} {K e kk : Nat} (h : Moved l K e kk dl) (hl : K + e + 1 < l.length) (ha : alikeB (el l (K + e + 1)) (el l (K + e)) = true) : Moved l K (e + 1) kk dl := by
  refine ⟨h.len, by have := h.le; omega, ?_, fun j hj hl => h.high j (by omega) hl⟩
  have := lightL_take (l := l) (k := K + e) hl
  rw [ha, if_pos rfl, List.append_nil] at this
  rw [show K + (e + 1) + 1 = K + e + 2 by omega, this]
  exact h.take
theorem Moved.keep {l dl : List Ar} {K e kk : Nat} (h : Moved l K e kk dl) (hl : K + e + 1 < l.length) (ha : alikeB (el l (K + e + 1)) (el l (K + e)) = false) : Moved l K (e + 1) (kk + 1) (dl.set kk (el l (K + e + 1))) := by
  have hle := h.le
  have hlen := h.len
  refine ⟨by simpa using h.len, by omega, ?_, fun j hj hl => ?_⟩
  · have := lightL_take (l := l) (k := K + e) hl
    rw [ha, if_neg (by simp)] at this
    rw [show K + (e + 1) + 1 = K + e + 2 by omega, this, ← h.take]
    rw [take_el (by rw [List.length_set]; omega), List.take_set_of_le (Nat.le_refl _), el_get (by rw [List.length_set]; omega)]
    simp
  · have hne : kk ≠ j := by omega
    have : el (dl.set kk (el l (K + e + 1))) j = el dl j := by simp [el, List.getElem?_set_ne hne]
    rw [this]
    exact h.high j (by omega) hl
/-- The row that is left. -/
theorem own_left {w : World} {base g cap kk : Nat} {l dl : List Ar} {rest : List Value} {cur : Array Value} (hb : base ≤ g) (hcap : cap ≤ maxLen) (hh : Blk w g cur 43) (hs : cur.size = cap * 4) (hkk : kk ≤ dl.length) (hcl : dl.length ≤ cap) (hc : ∀ i, i < kk * 4 → cur[i]? = (dl.flatMap encA ++ rest).toArray[i]?) (ht : dl.take kk = l) :
    w.ownsRow base 43 4 (.slice (some ⟨g, 0, none⟩) kk cap) l.length (l.flatMap encA) := by
  have hll : l.length = kk := by rw [← ht, List.length_take]; omega
  refine ⟨flat_length encA_len l, .inr ⟨g, cap, cur, by rw [hll], hb, hh, by omega, hcap, hs, ?_⟩⟩
  rw [hll]
  have hl : (dl.flatMap encA).length = dl.length * 4 := flat_length encA_len dl
  have hlf : (l.flatMap encA).length = kk * 4 := by rw [flat_length encA_len, hll]
  apply List.ext_getElem?
  intro t
  by_cases h : t < kk * 4
  · rw [List.getElem?_take_of_lt h, Array.getElem?_toList, hc t h, List.getElem?_toArray, List.getElem?_append_left (by omega)]
    have he : t / 4 * 4 + t % 4 = t := by omega
    have h1 := flat_at encA_len dl (t / 4) (by omega) (t % 4) (by omega)
    have h2 := flat_at encA_len l (t / 4) (by omega) (t % 4) (by omega)
    rw [he] at h1 h2
    rw [h1, h2, ← ht, el_take (by omega)]
  · rw [List.getElem?_eq_none (by simp; omega), List.getElem?_eq_none (by omega)]
end Go.Proofs.Ytbiecfnhjfdkcaa.Wt
