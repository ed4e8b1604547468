/- Machines whose arcs lead to later states alone: their order, their paths (no program in sight). -/
import Derived.Test.YtfffelgmgghldaaPlainOa
namespace Go.Proofs.Ytfffelgmgghldaa.Pl
/-- Each arc leads to a later state. -/
def Fwd (l : List St) : Prop := ∀ q, q < l.length → ∀ a ∈ (el l q).2, ∃ t : Nat, a.2.2.2 = (t : Int) ∧ q < t ∧ t < l.length
theorem Fwd.to {l : List St} (h : Fwd l) : ∀ q, q < l.length → ∀ a ∈ (el l q).2, ∃ t : Nat, a.2.2.2 = (t : Int) ∧ t < l.length := fun q hq a ha => by
  obtain ⟨t, h1, _, h2⟩ := h q hq a ha
  exact ⟨t, h1, h2⟩
def numsL (n : Nat) : List Int := (List.range n).map fun q : Nat => (q : Int)
theorem numsL_length (n : Nat) : (numsL n).length = n := by simp [numsL]
theorem numsL_el {n q : Nat} (h : q < n) : el (numsL n) q = (q : Int) := el_range_map _ h
theorem numsL_mem {n q : Nat} : (q : Int) ∈ numsL n ↔ q < n := by
  unfold numsL
  rw [List.mem_map]
  constructor
  · rintro ⟨p, hp, e⟩
    have := List.mem_range.1 hp
    omega
  · intro h; exact ⟨q, List.mem_range.2 h, rfl⟩
theorem numsL_take {n i : Nat} (h : i ≤ n) : (numsL n).take i = numsL i := by
  apply el_ext (by rw [List.length_take, numsL_length, numsL_length]; omega)
  intro j hj
  rw [List.length_take, numsL_length] at hj
  rw [el_take (by omega), numsL_el (by omega), numsL_el (by omega)]
theorem Fwd.order {l : List St} (h : Fwd l) : OrderL l (numsL l.length) := by
  refine ⟨fun i hi => ?_, numsL_length _⟩
  rw [numsL_length] at hi
  rw [numsL_el hi, numsL_take (by omega)]
  refine ⟨i, rfl, hi, ⟨fun h9 => absurd (numsL_mem.1 h9) (Nat.lt_irrefl _), fun p hp hl => ?_⟩, fun p hp hf => hf.1 (numsL_mem.2 hp)⟩
  obtain ⟨a, ha, he⟩ := List.any_eq_true.1 hl
  obtain ⟨t, h1, h2, _⟩ := h p hp a ha
  simp only [decide_eq_true_eq] at he
  exact numsL_mem.2 (by omega)
theorem sumF_le {f : Nat → Nat} {k : Nat} {ar : List Ar} (h : ∀ a ∈ ar, f a.2.2.2.toNat ≤ k) : sumF f ar ≤ ar.length * k := by
  induction ar with
  | nil => simp [sumF]
  | cons a l ih =>
    have h1 := h a (by simp)
    have h2 := ih (fun b hb => h b (by simp [hb]))
    simp only [sumF, List.length_cons, Nat.add_mul, Nat.one_mul]
    omega
theorem sumF_zero {f : Nat → Nat} {ar : List Ar} : sumF f ar = 0 ↔ ∀ a ∈ ar, f a.2.2.2.toNat = 0 := by
  induction ar with
  | nil => simp [sumF]
  | cons a l ih => simp [sumF, ih]
theorem cnt_bound {l : List St} {f : Nat → Nat} (h : Fwd l) (hf : CntEq l f) (h4 : ∀ q, q < l.length → (el l q).2.length ≤ 4) : ∀ k q, q < l.length → l.length - q ≤ k → f q ≤ 5 ^ k := by
  intro k
  induction k with
  | zero => intro q hq hk; omega
  | succ k ih =>
    intro q hq hk
    rw [hf q hq]
    have h1 : sumF f (el l q).2 ≤ (el l q).2.length * 5 ^ k := sumF_le (fun a ha => by
      obtain ⟨t, e, h2, h3⟩ := h q hq a ha
      rw [e, Int.toNat_natCast]
      exact ih t h3 (by omega))
    have h2 : (el l q).2.length * 5 ^ k ≤ 4 * 5 ^ k := Nat.mul_le_mul_right _ (h4 q hq)
    have h3 : 0 < 5 ^ k := Nat.pow_pos (by omega)
    have h5 : baseN (el l q).1 ≤ 1 := by unfold baseN; split <;> omega
    rw [Nat.pow_succ]
    omega
theorem maxF_neg {f : Nat → Int} {ar : List Ar} {n : Int} : maxF f n ar < 0 ↔ n < 0 ∧ ∀ a ∈ ar, f a.2.2.2.toNat < 0 := by
  induction ar generalizing n with
  | nil => simp [maxF]
  | cons a l ih =>
    rw [maxF, ih]
    simp only [List.mem_cons, forall_eq_or_imp]
    unfold stepD
    constructor
    · rintro ⟨h1, h2⟩
      split at h1
      · rename_i h; omega
      · rename_i h
        refine ⟨h1, ?_, h2⟩
        by_cases e : f a.2.2.2.toNat < 0
        · exact e
        · exact absurd ⟨by omega, by omega⟩ h
    · rintro ⟨h1, h2, h3⟩
      rw [if_neg (fun h => by omega)]
      exact ⟨h1, h3⟩
theorem maxF_ge {f : Nat → Int} {ar : List Ar} {n : Int} : n ≤ maxF f n ar := by
  induction ar generalizing n with
  | nil => exact Int.le_refl _
  | cons a l ih =>
    rw [maxF]
    refine Int.le_trans ?_ ih
    unfold stepD
    split <;> omega
theorem maxF_zero {f : Nat → Int} {ar : List Ar} {n : Int} (hn : -1 ≤ n) (h : maxF f n ar = 0) : n = 0 ∧ ∀ a ∈ ar, f a.2.2.2.toNat < 0 := by
  induction ar generalizing n with
  | nil => exact ⟨h, by simp⟩
  | cons a l ih =>
    rw [maxF] at h
    by_cases e : f a.2.2.2.toNat < 0
    · have hs : stepD n (f a.2.2.2.toNat) = n := by unfold stepD; rw [if_neg (fun h9 => by omega)]
      rw [hs] at h
      obtain ⟨h1, h2⟩ := ih hn h
      exact ⟨h1, fun b hb => by rcases List.mem_cons.1 hb with rfl | hb; exact e; exact h2 b hb⟩
    · have hs : 1 ≤ stepD n (f a.2.2.2.toNat) := by unfold stepD; split <;> omega
      have := maxF_ge (f := f) (ar := l) (n := stepD n (f a.2.2.2.toNat))
      omega
theorem maxF_le {f : Nat → Int} {k : Int} {ar : List Ar} {n : Int} (hn : n ≤ k) (h : ∀ a ∈ ar, f a.2.2.2.toNat + 1 ≤ k) : maxF f n ar ≤ k := by
  induction ar generalizing n with
  | nil => exact hn
  | cons a l ih =>
    rw [maxF]
    refine ih ?_ (fun b hb => h b (by simp [hb]))
    have := h a (by simp)
    unfold stepD
    split <;> omega
theorem far_cnt {l : List St} {out : List Int} (ho : OrderL l out) (hto : ∀ q, q < l.length → ∀ a ∈ (el l q).2, ∃ t : Nat, a.2.2.2 = (t : Int) ∧ t < l.length) {c : Nat → Nat} {d : Nat → Int} (hc : CntEq l c) (hd : FarEq l d) : ∀ q, q < l.length → (d q < 0 ↔ c q = 0) := by
  refine ho.ind hto fun q hq ih => ?_
  rw [hd q hq, hc q hq, maxF_neg, Nat.add_eq_zero_iff, sumF_zero]
  have hb : baseD (el l q).1 < 0 ↔ baseN (el l q).1 = 0 := by unfold baseD baseN; split <;> simp
  rw [hb]
  constructor
  · rintro ⟨h1, h2⟩; exact ⟨h1, fun a ha => (ih a ha).1 (h2 a ha)⟩
  · rintro ⟨h1, h2⟩; exact ⟨h1, fun a ha => (ih a ha).2 (h2 a ha)⟩
theorem far_zero {l : List St} {out : List Int} (ho : OrderL l out) (hto : ∀ q, q < l.length → ∀ a ∈ (el l q).2, ∃ t : Nat, a.2.2.2 = (t : Int) ∧ t < l.length) {c : Nat → Nat} {d : Nat → Int} (hc : CntEq l c) (hd : FarEq l d) {q : Nat} (hq : q < l.length) (h : d q = 0) : c q = 1 := by
  rw [hd q hq] at h
  have hb : -1 ≤ baseD (el l q).1 := by unfold baseD; split <;> omega
  obtain ⟨h1, h2⟩ := maxF_zero hb h
  have h3 : sumF c (el l q).2 = 0 := sumF_zero.2 (fun a ha => by
    obtain ⟨t, e, ht⟩ := hto q hq a ha
    have := h2 a ha
    rw [e, Int.toNat_natCast] at this ⊢
    exact (far_cnt ho hto hc hd t ht).1 this)
  rw [hc q hq, h3]
  unfold baseD at h1
  unfold baseN
  split at h1 <;> simp_all
theorem Fwd.far {l : List St} (h : Fwd l) {d : Nat → Int} (hd : FarEq l d) : ∀ q, q < l.length → d q ≤ (l.length : Int) - 1 - (q : Int) := by
  refine h.order.ind h.to fun q hq ih => ?_
  rw [hd q hq]
  refine maxF_le (by unfold baseD; split <;> omega) fun a ha => ?_
  obtain ⟨t, e, h1, h2⟩ := h q hq a ha
  have := ih a ha
  rw [e, Int.toNat_natCast] at this
  rw [e, Int.toNat_natCast]
  omega
end Go.Proofs.Ytfffelgmgghldaa.Pl
