/- States told one by one: how many arcs lead to each from those that are not told yet (no program in sight). -/
import Derived.Test.YtfffelgmgghldabJ11a
import Derived.Test.YtfffelgmgghldabPlainHp
namespace Go.Proofs.Ytfffelgmgghldab.Pl
/-- How many of these arcs lead to j. -/
def toC (j : Nat) : List Ar → Nat
  | [] => 0
  | a :: l => (if a.2.2.2 = (j : Int) then 1 else 0) + toC j l
theorem toC_append (j : Nat) (a b : List Ar) : toC j (a ++ b) = toC j a + toC j b := by
  induction a with
  | nil => simp [toC]
  | cons x a ih => simp only [List.cons_append, toC, ih]; omega
theorem toC_take (j : Nat) {ar : List Ar} {c : Nat} (h : c < ar.length) : toC j (ar.take (c + 1)) = toC j (ar.take c) + (if (el ar c).2.2.2 = (j : Int) then 1 else 0) := by
  rw [take_el h, toC_append]; simp [toC]
theorem toC_drop (j : Nat) {ar : List Ar} {c : Nat} (h : c < ar.length) : toC j (ar.drop c) = (if (el ar c).2.2.2 = (j : Int) then 1 else 0) + toC j (ar.drop (c + 1)) := by
  rw [List.drop_eq_getElem_cons h, ← el_get h]; rfl
theorem toC_le (j : Nat) (ar : List Ar) : toC j ar ≤ ar.length := by
  induction ar with
  | nil => simp [toC]
  | cons a l ih => simp only [toC, List.length_cons]; split <;> omega
theorem toC_zero {j : Nat} {ar : List Ar} : toC j ar = 0 ↔ (ar.any fun a => decide (a.2.2.2 = (j : Int))) = false := by
  induction ar with
  | nil => simp [toC]
  | cons a l ih =>
    simp only [toC, List.any_cons, Bool.or_eq_false_iff, decide_eq_false_iff_not]
    rw [← ih]
    split
    · rename_i h; simp [h]
    · rename_i h; simp [h]
/-- How many arcs lead to j from those of the first k states that are not told. -/
def openS (l : List St) (out : List Int) (j : Nat) : Nat → Nat
  | 0 => 0
  | k + 1 => openS l out j k + (if (k : Int) ∈ out then 0 else toC j (el l k).2)
theorem openS_le (l : List St) (out : List Int) (j : Nat) : ∀ k, k ≤ l.length → openS l out j k ≤ arcN (l.take k) := by
  intro k
  induction k with
  | zero => intro _; simp [openS]
  | succ k ih =>
    intro hk
    have h1 := ih (by omega)
    have h2 := toC_le j (el l k).2
    rw [arcN_take (by omega)]
    simp only [openS]
    split <;> omega
theorem openS_put {l : List St} {out : List Int} {q : Nat} (hq : (q : Int) ∉ out) (j : Nat) : ∀ k, openS l (out ++ [(q : Int)]) j k + (if q < k then toC j (el l q).2 else 0) = openS l out j k := by
  intro k
  induction k with
  | zero => simp [openS]
  | succ k ih =>
    simp only [openS]
    by_cases e : k = q
    · subst e
      rw [if_pos (by simp), if_pos (by omega), if_neg hq]
      rw [if_neg (by omega)] at ih
      omega
    · have hm : ((k : Int) ∈ out ++ [(q : Int)]) ↔ (k : Int) ∈ out := by
        simp only [List.mem_append, List.mem_singleton]
        constructor
        · rintro (h | h)
          · exact h
          · omega
        · exact .inl
      by_cases hko : (k : Int) ∈ out
      · rw [if_pos (hm.2 hko), if_pos hko]
        by_cases c : q < k
        · rw [if_pos c] at ih; rw [if_pos (by omega)]; omega
        · rw [if_neg c] at ih; rw [if_neg (by omega)]; omega
      · rw [if_neg (fun h => hko (hm.1 h)), if_neg hko]
        by_cases c : q < k
        · rw [if_pos c] at ih; rw [if_pos (by omega)]; omega
        · rw [if_neg c] at ih; rw [if_neg (by omega)]; omega
theorem openS_zero {l : List St} {out : List Int} {j : Nat} : ∀ k, openS l out j k = 0 ↔ ∀ p, p < k → leadsB l p j = true → (p : Int) ∈ out := by
  intro k
  induction k with
  | zero => simp [openS]
  | succ k ih =>
    simp only [openS]
    constructor
    · intro h p hp hl
      by_cases e : p = k
      · subst e
        by_cases hm : (p : Int) ∈ out
        · exact hm
        · rw [if_neg hm] at h
          have h2 : toC j (el l p).2 = 0 := by omega
          rw [toC_zero] at h2
          unfold leadsB at hl
          rw [h2] at hl
          cases hl
      · exact ih.1 (by omega) p (by omega) hl
    · intro h
      have h1 := ih.2 (fun p hp hl => h p (by omega) hl)
      rw [h1]
      split
      · rfl
      · rename_i hm
        have h2 : toC j (el l k).2 = 0 := by
          rw [toC_zero]
          cases hx : (el l k).2.any fun a => decide (a.2.2.2 = (j : Int)) with
          | false => rfl
          | true => exact absurd (h k (by omega) hx) hm
        omega
theorem low_len {n : Nat} {hs : List Int} (hd : hs.Nodup) (low : ∀ x ∈ hs, ∃ j : Nat, x = (j : Int) ∧ j < n) : hs.length ≤ n := by
  have h1 : (hs.map Int.toNat).length ≤ n := by
    refine pigeon n _ ?_ ?_
    · rw [List.nodup_iff_pairwise_ne, List.pairwise_map]
      rw [List.nodup_iff_pairwise_ne] at hd
      refine List.Pairwise.imp_of_mem ?_ hd
      intro a b ha hb hab e
      obtain ⟨p, rfl, _⟩ := low a ha
      obtain ⟨q, rfl, _⟩ := low b hb
      simp at e
      exact hab (by rw [e])
    · intro x hx
      obtain ⟨y, hy, rfl⟩ := List.mem_map.1 hx
      obtain ⟨p, rfl, hp⟩ := low y hy
      simpa using hp
  simpa using h1
/-- Those that wait: hs; how many arcs lead to each from what is not told: op. -/
structure WaitL (n : Nat) (out : List Int) (op : Nat → Nat) (hs : List Int) : Prop where
  nodup : hs.Nodup
  low : ∀ x ∈ hs, ∃ j : Nat, x = (j : Int) ∧ j < n
  iff : ∀ j, j < n → ((j : Int) ∈ hs ↔ (j : Int) ∉ out ∧ op j = 0)
  told : ∀ j, j < n → (j : Int) ∈ out → op j = 0
theorem WaitL.len {n : Nat} {out : List Int} {op : Nat → Nat} {hs : List Int} (h : WaitL n out op hs) : hs.length ≤ n := low_len h.nodup h.low
/-- Those of the first k states to which no arc leads wait, and no others. -/
structure FirstL (n k : Nat) (op : Nat → Nat) (hs : List Int) : Prop where
  nodup : hs.Nodup
  low : ∀ x ∈ hs, ∃ j : Nat, x = (j : Int) ∧ j < k
  iff : ∀ j, j < k → ((j : Int) ∈ hs ↔ op j = 0)
theorem FirstL.nil (n : Nat) (op : Nat → Nat) : FirstL n 0 op [] := ⟨List.nodup_nil, fun _ hx => absurd hx (List.not_mem_nil), fun _ hj => absurd hj (Nat.not_lt_zero _)⟩
theorem FirstL.skip {n k : Nat} {op : Nat → Nat} {hs : List Int} (h : FirstL n k op hs) (hk : op k ≠ 0) : FirstL n (k + 1) op hs := by
  refine ⟨h.nodup, fun x hx => ?_, fun j hj => ?_⟩
  · obtain ⟨j, e, hj⟩ := h.low x hx; exact ⟨j, e, by omega⟩
  · by_cases e : j = k
    · subst e
      constructor
      · intro hx
        obtain ⟨j', e, hj'⟩ := h.low _ hx
        omega
      · intro h0; exact absurd h0 hk
    · exact h.iff j (by omega)
theorem FirstL.put {n k : Nat} {op : Nat → Nat} {hs hs' : List Int} (h : FirstL n k op hs) (hk : op k = 0) (hp : hs'.Perm (hs ++ [(k : Int)])) : FirstL n (k + 1) op hs' := by
  have hno : (k : Int) ∉ hs := fun hx => by obtain ⟨j, e, hj⟩ := h.low _ hx; omega
  have hm : ∀ x, x ∈ hs' ↔ x ∈ hs ∨ x = (k : Int) := fun x => by rw [hp.mem_iff]; simp
  refine ⟨?_, fun x hx => ?_, fun j hj => ?_⟩
  · rw [hp.nodup_iff, List.nodup_append]
    exact ⟨h.nodup, by simp, fun a ha b hb e => by simp at hb; subst hb; subst e; exact hno ha⟩
  · rcases (hm x).1 hx with h1 | h1
    · obtain ⟨j, e, hj⟩ := h.low x h1; exact ⟨j, e, by omega⟩
    · exact ⟨k, h1, by omega⟩
  · rw [hm]
    by_cases e : j = k
    · subst e; simp [hk]
    · rw [h.iff j (by omega)]
      constructor
      · rintro (h1 | h1)
        · exact h1
        · omega
      · exact .inl
theorem FirstL.wait {n : Nat} {op : Nat → Nat} {hs : List Int} (h : FirstL n n op hs) : WaitL n [] op hs := ⟨h.nodup, h.low, fun j hj => by rw [h.iff j hj]; simp, fun _ _ hm => absurd hm (List.not_mem_nil)⟩
/-- The one that is told next no longer waits. -/
theorem WaitL.pop {n : Nat} {out : List Int} {op : Nat → Nat} {hs hs' : List Int} {x : Int} (h : WaitL n out op hs) (hp : (x :: hs').Perm hs) : WaitL n (out ++ [x]) op hs' := by
  have hm : ∀ y, y ∈ hs ↔ y = x ∨ y ∈ hs' := fun y => by rw [← hp.mem_iff]; simp
  have hnd := hp.nodup_iff.2 h.nodup
  rw [List.nodup_cons] at hnd
  refine ⟨hnd.2, fun y hy => h.low y ((hm y).2 (.inr hy)), fun j hj => ?_, fun j hj hmm => ?_⟩
  · rw [List.mem_append, List.mem_singleton]
    constructor
    · intro hy
      have h1 := (h.iff j hj).1 ((hm _).2 (.inr hy))
      refine ⟨?_, h1.2⟩
      rintro (h2 | h2)
      · exact h1.1 h2
      · rw [h2] at hy; exact hnd.1 hy
    · rintro ⟨h1, h2⟩
      have h3 := (h.iff j hj).2 ⟨fun h4 => h1 (.inl h4), h2⟩
      rcases (hm _).1 h3 with h4 | h4
      · exact absurd (.inr h4) h1
      · exact h4
  · rw [List.mem_append, List.mem_singleton] at hmm
    rcases hmm with h1 | h1
    · exact h.told j hj h1
    · exact ((h.iff j hj).1 ((hm _).2 (.inl h1))).2
/-- An arc less leads to t, and others still do. -/
theorem WaitL.less {n : Nat} {out : List Int} {op op' : Nat → Nat} {hs : List Int} {t : Nat} (h : WaitL n out op hs) (ht : t < n) (h0 : op' t ≠ 0) (h1 : op t ≠ 0) (hs' : ∀ j, j ≠ t → op' j = op j) : WaitL n out op' hs := by
  refine ⟨h.nodup, h.low, fun j hj => ?_, fun j hj hm => ?_⟩
  · by_cases e : j = t
    · subst e; rw [h.iff j hj]; simp [h0, h1]
    · rw [hs' j e]; exact h.iff j hj
  · by_cases e : j = t
    · subst e; exact absurd (h.told j hj hm) h1
    · rw [hs' j e]; exact h.told j hj hm
/-- No arc leads to t any more: it waits. -/
theorem WaitL.put {n : Nat} {out : List Int} {op op' : Nat → Nat} {hs hs' : List Int} {t : Nat} (h : WaitL n out op hs) (ht : t < n) (h0 : op' t = 0) (h1 : op t ≠ 0) (hs0 : ∀ j, j ≠ t → op' j = op j) (hp : hs'.Perm (hs ++ [(t : Int)])) : WaitL n out op' hs' := by
  have hno : (t : Int) ∉ hs := fun hx => h1 ((h.iff t ht).1 hx).2
  have hout : (t : Int) ∉ out := fun hx => h1 (h.told t ht hx)
  have hm : ∀ x, x ∈ hs' ↔ x ∈ hs ∨ x = (t : Int) := fun x => by rw [hp.mem_iff]; simp
  refine ⟨?_, fun x hx => ?_, fun j hj => ?_, fun j hj hmm => ?_⟩
  · rw [hp.nodup_iff, List.nodup_append]
    exact ⟨h.nodup, by simp, fun a ha b hb e => by simp at hb; subst hb; subst e; exact hno ha⟩
  · rcases (hm x).1 hx with h2 | h2
    · exact h.low x h2
    · exact ⟨t, h2, ht⟩
  · rw [hm]
    by_cases e : j = t
    · subst e; simp [hout, h0]
    · rw [hs0 j e, h.iff j hj]
      constructor
      · rintro (h2 | h2)
        · exact h2
        · omega
      · exact .inl
  · by_cases e : j = t
    · subst e; exact absurd hmm hout
    · rw [hs0 j e]; exact h.told j hj hmm
/-- Between two states that are told. -/
def OpenQ (l : List St) (out : List Int) (op : Nat → Nat) : Prop := ∀ j, op j = openS l out j l.length
theorem OpenQ.free {l : List St} {out : List Int} {op : Nat → Nat} {hs : List Int} (h : WaitL l.length out op hs) (ho : OpenQ l out op) {j : Nat} (hj : j < l.length) : (j : Int) ∈ hs ↔ FreeQ l out j := by
  rw [h.iff j hj, ho j, openS_zero]; rfl
theorem OpenQ.next {l : List St} {out : List Int} {op : Nat → Nat} {hs : List Int} (h : WaitL l.length out op hs) (ho : OpenQ l out op) {x : Int} (hx : x ∈ hs) (hle : ∀ y ∈ hs, x ≤ y) : NextQ l out x := by
  obtain ⟨q, rfl, hq⟩ := h.low x hx
  refine ⟨q, rfl, hq, (OpenQ.free h ho hq).1 hx, fun p hp hf => ?_⟩
  have := hle _ ((OpenQ.free h ho (by omega)).2 hf)
  omega
theorem OpenQ.none {l : List St} {out : List Int} {op : Nat → Nat} (h : WaitL l.length out op []) (ho : OpenQ l out op) : ∀ q, q < l.length → ¬ FreeQ l out q := fun q hq hf => by
  have := (OpenQ.free h ho hq).2 hf
  cases this
theorem StepsL.len {l : List St} {out : List Int} (h : StepsL l out) : out.length ≤ l.length := low_len h.nodup (fun _ hx => h.mem hx)
/-- What told answers. -/
def ToldL (l : List St) (out : List Int) : Prop := StepsL l out ∧ ∀ q, q < l.length → ¬ FreeQ l out q
theorem ToldL.order {l : List St} {out : List Int} (h : ToldL l out) (hl : ¬ out.length < l.length) : OrderL l out := ⟨h.1, Nat.le_antisymm h.1.len (Nat.le_of_not_lt hl)⟩
theorem ToldL.cycle {l : List St} {out : List Int} (h : ToldL l out) (hl : out.length < l.length) : CycleL l := ⟨out, h.1, hl, h.2⟩
/-- While the arcs of q are gone along: those from c on still count. -/
def OpenA (l : List St) (out : List Int) (q c : Nat) (op : Nat → Nat) : Prop := ∀ j, op j = openS l (out ++ [(q : Int)]) j l.length + toC j ((el l q).2.drop c)
theorem OpenA.start {l : List St} {out : List Int} {op : Nat → Nat} (h : OpenQ l out op) {q : Nat} (hq : (q : Int) ∉ out) (hl : q < l.length) : OpenA l out q 0 op := by
  intro j
  rw [h j, List.drop_zero, ← openS_put hq j l.length, if_pos hl]
theorem OpenA.done {l : List St} {out : List Int} {op : Nat → Nat} {q c : Nat} (h : OpenA l out q c op) (hc : (el l q).2.length ≤ c) : OpenQ l (out ++ [(q : Int)]) op := by
  intro j
  rw [h j, List.drop_of_length_le hc]
  simp [toC]
theorem OpenA.step {l : List St} {out : List Int} {op : Nat → Nat} {q c t : Nat} (h : OpenA l out q c op) (hc : c < (el l q).2.length) (ht : (el (el l q).2 c).2.2.2 = (t : Int)) :
    op t ≠ 0 ∧ OpenA l out q (c + 1) (fun j => if j = t then op t - 1 else op j) := by
  have h1 := h t
  rw [toC_drop t hc, if_pos ht] at h1
  refine ⟨by omega, fun j => ?_⟩
  simp only
  split
  · rename_i e; subst e; omega
  · rename_i e
    rw [h j, toC_drop j hc, if_neg (by rw [ht]; omega)]
    omega
theorem OpenA.le {l : List St} {out : List Int} {op : Nat → Nat} {q c : Nat} (h : OpenA l out q c op) (hq : (q : Int) ∉ out) (hl : q < l.length) (j : Nat) : op j ≤ arcN l := by
  have h1 := openS_put (l := l) hq j l.length
  rw [if_pos hl] at h1
  have h2 := openS_le l out j l.length (Nat.le_refl _)
  rw [List.take_length] at h2
  have h3 : toC j ((el l q).2.drop c) ≤ toC j (el l q).2 := by
    have h4 : toC j (el l q).2 = toC j ((el l q).2.take c) + toC j ((el l q).2.drop c) := by rw [← toC_append, List.take_append_drop]
    omega
  have := h j
  omega
theorem OpenQ.le {l : List St} {out : List Int} {op : Nat → Nat} (h : OpenQ l out op) (j : Nat) : op j ≤ arcN l := by
  have h2 := openS_le l out j l.length (Nat.le_refl _)
  rw [List.take_length] at h2
  rw [h j]; exact h2
/-- How many arcs of the first k states lead to j. -/
def leadC (l : List St) (j : Nat) (k : Nat) : Nat := openS l [] j k
theorem leadC_succ (l : List St) (j k : Nat) : leadC l j (k + 1) = leadC l j k + toC j (el l k).2 := by simp [leadC, openS]
theorem leadC_open (l : List St) : OpenQ l [] (fun j => leadC l j l.length) := fun _ => rfl
end Go.Proofs.Ytfffelgmgghldab.Pl
