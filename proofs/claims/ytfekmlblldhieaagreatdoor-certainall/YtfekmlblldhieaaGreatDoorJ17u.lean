/- A heap of numbers, the least one first: what goes up, what goes down (no program in sight). States told one by one: how many arcs lead to each from those that are not told yet (no program in sight). Paths counted from the start on, and the longest way to each state: the ends' sum is what is counted from behind (no program in sight). The longest way from the start to each state, and to the ends (no program in sight). -/
import Derived.Test.YtfekmlblldhieaaGreatDoorPlainK
import Derived.Test.YtfekmlblldhieaaGreatDoorJ17a
namespace Go.Proofs.YtfekmlblldhieaaGreatDoor.Pl
/-- Two places exchanged. -/
def swpL (l : List Int) (i j : Nat) : List Int := (l.set i (el l j)).set j (el l i)
theorem swp_length (l : List Int) (i j : Nat) : (swpL l i j).length = l.length := by simp [swpL]
theorem el_setZ {l : List Int} {q j : Nat} (hq : q < l.length) (x : Int) : el (l.set q x) j = if j = q then x else el l j := by
  by_cases h : j = q
  · subst h; rw [if_pos rfl, el_get (by simpa using hq)]; simp
  · rw [if_neg h]; simp [el, List.getElem?_set_ne (Ne.symm h)]
theorem el_swp {l : List Int} {i j : Nat} (hi : i < l.length) (hj : j < l.length) (k : Nat) : el (swpL l i j) k = if k = j then el l i else if k = i then el l j else el l k := by
  unfold swpL
  rw [el_setZ (by simpa using hj), el_setZ hi]
theorem swp_perm {l : List Int} {i j : Nat} (hi : i < l.length) (hj : j < l.length) : (swpL l i j).Perm l := by
  have h := Array.swap_perm (xs := l.toArray) (i := i) (j := j) (by simpa using hi) (by simpa using hj)
  rw [Array.perm_iff_toList_perm] at h
  have e : (l.toArray.swap i j (by simpa using hi) (by simpa using hj)).toList = swpL l i j := by
    unfold swpL
    rw [el_get hi, el_get hj]
    simp [Array.swap]
  rw [e] at h
  exact h
theorem swp_drop {l : List Int} {i j n : Nat} (hi : i < n) (hj : j < n) : (swpL l i j).drop n = l.drop n := by
  unfold swpL
  rw [List.drop_set_of_lt (by omega), List.drop_set_of_lt (by omega)]
/-- Of the first n ones none is less than the one above it. -/
def HeapL (l : List Int) (n : Nat) : Prop := ∀ k, 0 < k → k < n → el l ((k - 1) / 2) ≤ el l k
theorem HeapL.nil : HeapL [] 0 := fun _ _ h => absurd h (Nat.not_lt_zero _)
theorem HeapL.root {l : List Int} {n : Nat} (h : HeapL l n) : ∀ k, k < n → el l 0 ≤ el l k := by
  intro k
  induction k using Nat.strongRecOn with
  | ind k ih =>
    intro hk
    by_cases e : k = 0
    · subst e; exact Int.le_refl _
    · have h1 := h k (by omega) hk
      have h2 := ih ((k - 1) / 2) (by omega) (by omega)
      omega
theorem HeapL.left {l r : List Int} {n : Nat} (h : HeapL (l ++ r) n) (hn : n ≤ l.length) : HeapL l n := by
  intro k h0 hk
  have := h k h0 hk
  rwa [el_left (by omega), el_left (by omega)] at this
/-- A heap but for what stands at j, which may be too low. -/
def UpL (l : List Int) (j : Nat) : Prop := ∀ k, 0 < k → k < l.length → (k ≠ j → el l ((k - 1) / 2) ≤ el l k) ∧ (0 < j → (k - 1) / 2 = j → el l ((j - 1) / 2) ≤ el l k)
theorem UpL.start {l : List Int} (h : HeapL l l.length) (x : Int) : UpL (l ++ [x]) l.length := by
  intro k h0 hk
  have hk' : k < l.length + 1 := by simpa using hk
  constructor
  · intro hne
    rw [el_left (by omega), el_left (by omega)]
    exact h k h0 (by omega)
  · intro h1 h2; omega
theorem UpL.swap {l : List Int} {j : Nat} (h : UpL l j) (h0 : 0 < j) (hj : j < l.length) (hlt : el l j < el l ((j - 1) / 2)) : UpL (swpL l ((j - 1) / 2) j) ((j - 1) / 2) := by
  generalize hi : (j - 1) / 2 = i at *
  have hij : i < j := by omega
  intro k hk0 hk
  rw [swp_length] at hk
  have hjj := h j h0 hj
  have hkk := h k hk0 hk
  have e := fun p => el_swp (l := l) (i := i) (j := j) (by omega) hj p
  constructor
  · intro hki
    rw [e k, if_neg hki, e ((k - 1) / 2)]
    by_cases c1 : k = j
    · subst c1
      rw [if_pos rfl, hi, if_neg (by omega), if_pos rfl]
      omega
    · rw [if_neg c1]
      have h1 := hkk.1 c1
      by_cases c2 : (k - 1) / 2 = j
      · rw [if_pos c2]
        have := hkk.2 h0 c2
        rw [hi] at this
        exact this
      · rw [if_neg c2]
        by_cases c3 : (k - 1) / 2 = i
        · rw [if_pos c3]
          rw [c3] at h1
          omega
        · rw [if_neg c3]; exact h1
  · intro hi0 hki
    have hpi : (i - 1) / 2 < i := by omega
    rw [e ((i - 1) / 2), if_neg (by omega), if_neg (by omega), e k]
    have h1 := (h i hi0 (by omega)).1 (by omega)
    by_cases c1 : k = j
    · rw [if_pos c1]; exact h1
    · rw [if_neg c1, if_neg (by omega)]
      have h2 := hkk.1 c1
      rw [hki] at h2
      omega
theorem UpL.top {l : List Int} (h : UpL l 0) : HeapL l l.length := fun k h0 hk => (h k h0 hk).1 (by omega)
theorem UpL.stop {l : List Int} {j : Nat} (h : UpL l j) (hle : ¬ el l j < el l ((j - 1) / 2)) : HeapL l l.length := by
  intro k h0 hk
  by_cases c : k = j
  · subst c; omega
  · exact (h k h0 hk).1 c
/-- The first n are a heap but for what stands at i, which may be too high. -/
def DownL (l : List Int) (i n : Nat) : Prop := ∀ k, 0 < k → k < n → ((k - 1) / 2 ≠ i → el l ((k - 1) / 2) ≤ el l k) ∧ (0 < i → (k - 1) / 2 = i → el l ((i - 1) / 2) ≤ el l k)
theorem DownL.start {l : List Int} {n : Nat} (h : HeapL l l.length) (hn : l.length = n + 1) : DownL (swpL l 0 n) 0 n := by
  intro k h0 hk
  have e := fun p => el_swp (l := l) (i := 0) (j := n) (by omega) (by omega) p
  constructor
  · intro hne
    rw [e, e k, if_neg (by omega), if_neg (by omega), if_neg (by omega), if_neg (by omega)]
    exact h k h0 (by omega)
  · intro h1; omega
/-- c: the lesser one of those below i. -/
def LowC (l : List Int) (i n c : Nat) : Prop := c < n ∧ 0 < c ∧ (c - 1) / 2 = i ∧ ∀ k, 0 < k → k < n → (k - 1) / 2 = i → el l c ≤ el l k
theorem LowC.left {l : List Int} {i n : Nat} (h1 : 2 * i + 1 < n) (h2 : 2 * i + 1 + 1 < n → ¬ el l (2 * i + 1 + 1) < el l (2 * i + 1)) : LowC l i n (2 * i + 1) := by
  refine ⟨h1, by omega, by omega, fun k k0 hk hp => ?_⟩
  have : k = 2 * i + 1 ∨ k = 2 * i + 1 + 1 := by omega
  rcases this with rfl | rfl
  · exact Int.le_refl _
  · have := h2 hk; omega
theorem LowC.right {l : List Int} {i n : Nat} (h1 : 2 * i + 1 + 1 < n) (h2 : el l (2 * i + 1 + 1) < el l (2 * i + 1)) : LowC l i n (2 * i + 1 + 1) := by
  refine ⟨h1, by omega, by omega, fun k k0 hk hp => ?_⟩
  have : k = 2 * i + 1 ∨ k = 2 * i + 1 + 1 := by omega
  rcases this with rfl | rfl
  · omega
  · exact Int.le_refl _
theorem DownL.swap {l : List Int} {i n c : Nat} (h : DownL l i n) (hn : n ≤ l.length) (hc : LowC l i n c) (hlt : el l c < el l i) : DownL (swpL l i c) c n := by
  obtain ⟨hcn, hc0, hci, hmin⟩ := hc
  have hic : i < c := by omega
  intro k hk0 hk
  have e := fun p => el_swp (l := l) (i := i) (j := c) (by omega) (by omega) p
  constructor
  · intro hkc
    rw [e ((k - 1) / 2), if_neg hkc, e k]
    by_cases c3 : (k - 1) / 2 = i
    · rw [if_pos c3]
      by_cases c1 : k = c
      · rw [if_pos c1]; omega
      · rw [if_neg c1, if_neg (by omega)]
        exact hmin k hk0 hk c3
    · rw [if_neg c3]
      have h1 := (h k hk0 hk).1 c3
      by_cases c1 : k = c
      · subst c1; exact absurd hci c3
      · rw [if_neg c1]
        by_cases c2 : k = i
        · subst c2
          rw [if_pos rfl]
          exact (h c hc0 hcn).2 hk0 hci
        · rw [if_neg c2]; exact h1
  · intro _ hkc
    rw [hci, e i, if_neg (by omega), if_pos rfl, e k, if_neg (by omega), if_neg (by omega)]
    have h1 := (h k hk0 hk).1 (by omega)
    rw [hkc] at h1
    exact h1
theorem DownL.leaf {l : List Int} {i n : Nat} (h : DownL l i n) (hl : n ≤ 2 * i + 1) : HeapL l n := fun k h0 hk => (h k h0 hk).1 (by omega)
theorem DownL.stop {l : List Int} {i n c : Nat} (h : DownL l i n) (hc : LowC l i n c) (hle : ¬ el l c < el l i) : HeapL l n := by
  intro k h0 hk
  by_cases e : (k - 1) / 2 = i
  · have := hc.2.2.2 k h0 hk e
    rw [e]; omega
  · exact (h k h0 hk).1 e
/-- The least one taken out. -/
theorem pop_facts {l m : List Int} {n : Nat} (h : HeapL l l.length) (hn : l.length = n + 1) (hp : m.Perm (swpL l 0 n)) (hd : m.drop n = (swpL l 0 n).drop n) (hm : HeapL m n) :
    el m n = el l 0 ∧ HeapL (m.take n) n ∧ (el l 0 :: m.take n).Perm l ∧ ∀ y ∈ m.take n, el l 0 ≤ y := by
  have hml : m.length = n + 1 := by rw [hp.length_eq, swp_length, hn]
  have h1 : el m n = el l 0 := by
    have e1 : el (m.drop n) 0 = el m n := by simp [el]
    have e2 : el ((swpL l 0 n).drop n) 0 = el (swpL l 0 n) n := by simp [el]
    rw [← e1, hd, e2, el_swp (by omega) (by omega), if_pos rfl]
  have h2 : m = m.take n ++ [el l 0] := by
    have := take_el (l := m) (k := n) (by omega)
    rw [List.take_of_length_le (by omega), h1] at this
    exact this
  have h3 : (el l 0 :: m.take n).Perm l := by
    have h4 : m.Perm l := hp.trans (swp_perm (by omega) (by omega))
    rw [h2] at h4
    exact (List.perm_append_singleton _ _).symm.trans h4
  refine ⟨h1, ?_, h3, fun y hy => ?_⟩
  · intro k h0 hk
    rw [el_take (by omega), el_take hk]
    exact hm k h0 hk
  · have : y ∈ l := h3.mem_iff.1 (List.mem_cons_of_mem _ hy)
    obtain ⟨k, hk, rfl⟩ := mem_el this
    exact h.root k hk
end Go.Proofs.YtfekmlblldhieaaGreatDoor.Pl
namespace Go.Proofs.YtfekmlblldhieaaGreatDoor.Pl
/-- How many of these arcs lead to j. -/
def toC (j : Nat) : List Ar → Nat
  | [] => 0
  | a :: l => (if a.2.2.2 = (j : Int) then 1 else 0) + toC j l
theorem toC_append (j : Nat) (a b : List Ar) : toC j (a ++ b) = toC j a + toC j b := by
  induction a with
  | nil => simp [toC]
  | cons x a ih => simp only [List.cons_append, toC, ih]; omega
theorem toC_take (j : Nat) {ar : List Ar} {c : Nat} (h : c < ar.length) : toC j (ar.take (c + 1)) = toC j (ar.take c) + (if (el ar c).2.2.2 = (j : Int) then 1 else 0) := by
  rw [take_el h, toC_append]; simp [toC]
theorem toC_drop (j : Nat) {ar : List Ar} {c : Nat} (h : c < ar.length) : toC j (ar.drop c) = (if (el ar c).2.2.2 = (j : Int) then 1 else 0) + toC j (ar.drop (c + 1)) := by
  rw [List.drop_eq_getElem_cons h, ← el_get h]; rfl
theorem toC_le (j : Nat) (ar : List Ar) : toC j ar ≤ ar.length := by
  induction ar with
  | nil => simp [toC]
  | cons a l ih => simp only [toC, List.length_cons]; split <;> omega
theorem toC_zero {j : Nat} {ar : List Ar} : toC j ar = 0 ↔ (ar.any fun a => decide (a.2.2.2 = (j : Int))) = false := by
  induction ar with
  | nil => simp [toC]
  | cons a l ih =>
    simp only [toC, List.any_cons, Bool.or_eq_false_iff, decide_eq_false_iff_not]
    rw [← ih]
    split
    · rename_i h; simp [h]
    · rename_i h; simp [h]
/-- How many arcs lead to j from those of the first k states that are not told. -/
def openS (l : List St) (out : List Int) (j : Nat) : Nat → Nat
  | 0 => 0
  | k + 1 => openS l out j k + (if (k : Int) ∈ out then 0 else toC j (el l k).2)
theorem openS_le (l : List St) (out : List Int) (j : Nat) : ∀ k, k ≤ l.length → openS l out j k ≤ arcN (l.take k) := by
  intro k
  induction k with
  | zero => intro _; simp [openS]
  | succ k ih =>
    intro hk
    have h1 := ih (by omega)
    have h2 := toC_le j (el l k).2
    rw [arcN_take (by omega)]
    simp only [openS]
    split <;> omega
theorem openS_put {l : List St} {out : List Int} {q : Nat} (hq : (q : Int) ∉ out) (j : Nat) : ∀ k, openS l (out ++ [(q : Int)]) j k + (if q < k then toC j (el l q).2 else 0) = openS l out j k := by
  intro k
  induction k with
  | zero => simp [openS]
  | succ k ih =>
    simp only [openS]
    by_cases e : k = q
    · subst e
      rw [if_pos (by simp), if_pos (by omega), if_neg hq]
      rw [if_neg (by omega)] at ih
      omega
    · have hm : ((k : Int) ∈ out ++ [(q : Int)]) ↔ (k : Int) ∈ out := by
        simp only [List.mem_append, List.mem_singleton]
        constructor
        · rintro (h | h)
          · exact h
          · omega
        · exact .inl
      by_cases hko : (k : Int) ∈ out
      · rw [if_pos (hm.2 hko), if_pos hko]
        by_cases c : q < k
        · rw [if_pos c] at ih; rw [if_pos (by omega)]; omega
        · rw [if_neg c] at ih; rw [if_neg (by omega)]; omega
      · rw [if_neg (fun h => hko (hm.1 h)), if_neg hko]
        by_cases c : q < k
        · rw [if_pos c] at ih; rw [if_pos (by omega)]; omega
        · rw [if_neg c] at ih; rw [if_neg (by omega)]; omega
theorem openS_zero {l : List St} {out : List Int} {j : Nat} : ∀ k, openS l out j k = 0 ↔ ∀ p, p < k → leadsB l p j = true → (p : Int) ∈ out := by
  intro k
  induction k with
  | zero => simp [openS]
  | succ k ih =>
    simp only [openS]
    constructor
    · intro h p hp hl
      by_cases e : p = k
      · subst e
        by_cases hm : (p : Int) ∈ out
        · exact hm
        · rw [if_neg hm] at h
          have h2 : toC j (el l p).2 = 0 := by omega
          rw [toC_zero] at h2
          unfold leadsB at hl
          rw [h2] at hl
          cases hl
      · exact ih.1 (by omega) p (by omega) hl
    · intro h
      have h1 := ih.2 (fun p hp hl => h p (by omega) hl)
      rw [h1]
      split
      · rfl
      · rename_i hm
        have h2 : toC j (el l k).2 = 0 := by
          rw [toC_zero]
          cases hx : (el l k).2.any fun a => decide (a.2.2.2 = (j : Int)) with
          | false => rfl
          | true => exact absurd (h k (by omega) hx) hm
        omega
theorem low_len {n : Nat} {hs : List Int} (hd : hs.Nodup) (low : ∀ x ∈ hs, ∃ j : Nat, x = (j : Int) ∧ j < n) : hs.length ≤ n := by
  have h1 : (hs.map Int.toNat).length ≤ n := by
    refine pigeon n _ ?_ ?_
    · rw [List.nodup_iff_pairwise_ne, List.pairwise_map]
      rw [List.nodup_iff_pairwise_ne] at hd
      refine List.Pairwise.imp_of_mem ?_ hd
      intro a b ha hb hab e
      obtain ⟨p, rfl, _⟩ := low a ha
      obtain ⟨q, rfl, _⟩ := low b hb
      simp at e
      exact hab (by rw [e])
    · intro x hx
      obtain ⟨y, hy, rfl⟩ := List.mem_map.1 hx
      obtain ⟨p, rfl, hp⟩ := low y hy
      simpa using hp
  simpa using h1
/-- Those that wait: hs; how many arcs lead to each from what is not told: op. -/
structure WaitL (n : Nat) (out : List Int) (op : Nat → Nat) (hs : List Int) : Prop where
  nodup : hs.Nodup
  low : ∀ x ∈ hs, ∃ j : Nat, x = (j : Int) ∧ j < n
  iff : ∀ j, j < n → ((j : Int) ∈ hs ↔ (j : Int) ∉ out ∧ op j = 0)
  told : ∀ j, j < n → (j : Int) ∈ out → op j = 0
theorem WaitL.len {n : Nat} {out : List Int} {op : Nat → Nat} {hs : List Int} (h : WaitL n out op hs) : hs.length ≤ n := low_len h.nodup h.low
/-- Those of the first k states to which no arc leads wait, and no others. -/
structure FirstL (n k : Nat) (op : Nat → Nat) (hs : List Int) : Prop where
  nodup : hs.Nodup
  low : ∀ x ∈ hs, ∃ j : Nat, x = (j : Int) ∧ j < k
  iff : ∀ j, j < k → ((j : Int) ∈ hs ↔ op j = 0)
theorem FirstL.nil (n : Nat) (op : Nat → Nat) : FirstL n 0 op [] := ⟨List.nodup_nil, fun _ hx => absurd hx (List.not_mem_nil), fun _ hj => absurd hj (Nat.not_lt_zero _)⟩
theorem FirstL.skip {n k : Nat} {op : Nat → Nat} {hs : List Int} (h : FirstL n k op hs) (hk : op k ≠ 0) : FirstL n (k + 1) op hs := by
  refine ⟨h.nodup, fun x hx => ?_, fun j hj => ?_⟩
  · obtain ⟨j, e, hj⟩ := h.low x hx; exact ⟨j, e, by omega⟩
  · by_cases e : j = k
    · subst e
      constructor
      · intro hx
        obtain ⟨j', e, hj'⟩ := h.low _ hx
        omega
      · intro h0; exact absurd h0 hk
    · exact h.iff j (by omega)
theorem FirstL.put {n k : Nat} {op : Nat → Nat} {hs hs' : List Int} (h : FirstL n k op hs) (hk : op k = 0) (hp : hs'.Perm (hs ++ [(k : Int)])) : FirstL n (k + 1) op hs' := by
  have hno : (k : Int) ∉ hs := fun hx => by obtain ⟨j, e, hj⟩ := h.low _ hx; omega
  have hm : ∀ x, x ∈ hs' ↔ x ∈ hs ∨ x = (k : Int) := fun x => by rw [hp.mem_iff]; simp
  refine ⟨?_, fun x hx => ?_, fun j hj => ?_⟩
  · rw [hp.nodup_iff, List.nodup_append]
    exact ⟨h.nodup, by simp, fun a ha b hb e => by simp at hb; subst hb; subst e; exact hno ha⟩
  · rcases (hm x).1 hx with h1 | h1
    · obtain ⟨j, e, hj⟩ := h.low x h1; exact ⟨j, e, by omega⟩
    · exact ⟨k, h1, by omega⟩
  · rw [hm]
    by_cases e : j = k
    · subst e; simp [hk]
    · rw [h.iff j (by omega)]
      constructor
      · rintro (h1 | h1)
        · exact h1
        · omega
      · exact .inl
theorem FirstL.wait {n : Nat} {op : Nat → Nat} {hs : List Int} (h : FirstL n n op hs) : WaitL n [] op hs := ⟨h.nodup, h.low, fun j hj => by rw [h.iff j hj]; simp, fun _ _ hm => absurd hm (List.not_mem_nil)⟩
/-- The one that is told next no longer waits. -/
theorem WaitL.pop {n : Nat} {out : List Int} {op : Nat → Nat} {hs hs' : List Int} {x : Int} (h : WaitL n out op hs) (hp : (x :: hs').Perm hs) : WaitL n (out ++ [x]) op hs' := by
  have hm : ∀ y, y ∈ hs ↔ y = x ∨ y ∈ hs' := fun y => by rw [← hp.mem_iff]; simp
  have hnd := hp.nodup_iff.2 h.nodup
  rw [List.nodup_cons] at hnd
  refine ⟨hnd.2, fun y hy => h.low y ((hm y).2 (.inr hy)), fun j hj => ?_, fun j hj hmm => ?_⟩
  · rw [List.mem_append, List.mem_singleton]
    constructor
    · intro hy
      have h1 := (h.iff j hj).1 ((hm _).2 (.inr hy))
      refine ⟨?_, h1.2⟩
      rintro (h2 | h2)
      · exact h1.1 h2
      · rw [h2] at hy; exact hnd.1 hy
    · rintro ⟨h1, h2⟩
      have h3 := (h.iff j hj).2 ⟨fun h4 => h1 (.inl h4), h2⟩
      rcases (hm _).1 h3 with h4 | h4
      · exact absurd (.inr h4) h1
      · exact h4
  · rw [List.mem_append, List.mem_singleton] at hmm
    rcases hmm with h1 | h1
    · exact h.told j hj h1
    · exact ((h.iff j hj).1 ((hm _).2 (.inl h1))).2
/-- An arc less leads to t, and others still do. -/
theorem WaitL.less {n : Nat} {out : List Int} {op op' : Nat → Nat} {hs : List Int} {t : Nat} (h : WaitL n out op hs) (ht : t < n) (h0 : op' t ≠ 0) (h1 : op t ≠ 0) (hs' : ∀ j, j ≠ t → op' j = op j) : WaitL n out op' hs := by
  refine ⟨h.nodup, h.low, fun j hj => ?_, fun j hj hm => ?_⟩
  · by_cases e : j = t
    · subst e; rw [h.iff j hj]; simp [h0, h1]
    · rw [hs' j e]; exact h.iff j hj
  · by_cases e : j = t
    · subst e; exact absurd (h.told j hj hm) h1
    · rw [hs' j e]; exact h.told j hj hm
/-- No arc leads to t any more: it waits. -/
theorem WaitL.put {n : Nat} {out : List Int} {op op' : Nat → Nat} {hs hs' : List Int} {t : Nat} (h : WaitL n out op hs) (ht : t < n) (h0 : op' t = 0) (h1 : op t ≠ 0) (hs0 : ∀ j, j ≠ t → op' j = op j) (hp : hs'.Perm (hs ++ [(t : Int)])) : WaitL n out op' hs' := by
  have hno : (t : Int) ∉ hs := fun hx => h1 ((h.iff t ht).1 hx).2
  have hout : (t : Int) ∉ out := fun hx => h1 (h.told t ht hx)
  have hm : ∀ x, x ∈ hs' ↔ x ∈ hs ∨ x = (t : Int) := fun x => by rw [hp.mem_iff]; simp
  refine ⟨?_, fun x hx => ?_, fun j hj => ?_, fun j hj hmm => ?_⟩
  · rw [hp.nodup_iff, List.nodup_append]
    exact ⟨h.nodup, by simp, fun a ha b hb e => by simp at hb; subst hb; subst e; exact hno ha⟩
  · rcases (hm x).1 hx with h2 | h2
    · exact h.low x h2
    · exact ⟨t, h2, ht⟩
  · rw [hm]
    by_cases e : j = t
    · subst e; simp [hout, h0]
    · rw [hs0 j e, h.iff j hj]
      constructor
      · rintro (h2 | h2)
        · exact h2
        · omega
      · exact .inl
  · by_cases e : j = t
    · subst e; exact absurd hmm hout
    · rw [hs0 j e]; exact h.told j hj hmm
/-- Between two states that are told. -/
def OpenQ (l : List St) (out : List Int) (op : Nat → Nat) : Prop := ∀ j, op j = openS l out j l.length
theorem OpenQ.free {l : List St} {out : List Int} {op : Nat → Nat} {hs : List Int} (h : WaitL l.length out op hs) (ho : OpenQ l out op) {j : Nat} (hj : j < l.length) : (j : Int) ∈ hs ↔ FreeQ l out j := by
  rw [h.iff j hj, ho j, openS_zero]; rfl
theorem OpenQ.next {l : List St} {out : List Int} {op : Nat → Nat} {hs : List Int} (h : WaitL l.length out op hs) (ho : OpenQ l out op) {x : Int} (hx : x ∈ hs) (hle : ∀ y ∈ hs, x ≤ y) : NextQ l out x := by
  obtain ⟨q, rfl, hq⟩ := h.low x hx
  refine ⟨q, rfl, hq, (OpenQ.free h ho hq).1 hx, fun p hp hf => ?_⟩
  have := hle _ ((OpenQ.free h ho (by omega)).2 hf)
  omega
theorem OpenQ.none {l : List St} {out : List Int} {op : Nat → Nat} (h : WaitL l.length out op []) (ho : OpenQ l out op) : ∀ q, q < l.length → ¬ FreeQ l out q := fun q hq hf => by
  have := (OpenQ.free h ho hq).2 hf
  cases this
theorem StepsL.len {l : List St} {out : List Int} (h : StepsL l out) : out.length ≤ l.length := low_len h.nodup (fun _ hx => h.mem hx)
/-- What told answers. -/
def ToldL (l : List St) (out : List Int) : Prop := StepsL l out ∧ ∀ q, q < l.length → ¬ FreeQ l out q
theorem ToldL.order {l : List St} {out : List Int} (h : ToldL l out) (hl : ¬ out.length < l.length) : OrderL l out := ⟨h.1, Nat.le_antisymm h.1.len (Nat.le_of_not_lt hl)⟩
theorem ToldL.cycle {l : List St} {out : List Int} (h : ToldL l out) (hl : out.length < l.length) : CycleL l := ⟨out, h.1, hl, h.2⟩
/-- While the arcs of q are gone along: those from c on still count. -/
def OpenA (l : List St) (out : List Int) (q c : Nat) (op : Nat → Nat) : Prop := ∀ j, op j = openS l (out ++ [(q : Int)]) j l.length + toC j ((el l q).2.drop c)
theorem OpenA.start {l : List St} {out : List Int} {op : Nat → Nat} (h : OpenQ l out op) {q : Nat} (hq : (q : Int) ∉ out) (hl : q < l.length) : OpenA l out q 0 op := by
  intro j
  rw [h j, List.drop_zero, ← openS_put hq j l.length, if_pos hl]
theorem OpenA.done {l : List St} {out : List Int} {op : Nat → Nat} {q c : Nat} (h : OpenA l out q c op) (hc : (el l q).2.length ≤ c) : OpenQ l (out ++ [(q : Int)]) op := by
  intro j
  rw [h j, List.drop_of_length_le hc]
  simp [toC]
theorem OpenA.step {l : List St} {out : List Int} {op : Nat → Nat} {q c t : Nat} (h : OpenA l out q c op) (hc : c < (el l q).2.length) (ht : (el (el l q).2 c).2.2.2 = (t : Int)) :
    op t ≠ 0 ∧ OpenA l out q (c + 1) (fun j => if j = t then op t - 1 else op j) := by
  have h1 := h t
  rw [toC_drop t hc, if_pos ht] at h1
  refine ⟨by omega, fun j => ?_⟩
  simp only
  split
  · rename_i e; subst e; omega
  · rename_i e
    rw [h j, toC_drop j hc, if_neg (by rw [ht]; omega)]
    omega
theorem OpenA.le {l : List St} {out : List Int} {op : Nat → Nat} {q c : Nat} (h : OpenA l out q c op) (hq : (q : Int) ∉ out) (hl : q < l.length) (j : Nat) : op j ≤ arcN l := by
  have h1 := openS_put (l := l) hq j l.length
  rw [if_pos hl] at h1
  have h2 := openS_le l out j l.length (Nat.le_refl _)
  rw [List.take_length] at h2
  have h3 : toC j ((el l q).2.drop c) ≤ toC j (el l q).2 := by
    have h4 : toC j (el l q).2 = toC j ((el l q).2.take c) + toC j ((el l q).2.drop c) := by rw [← toC_append, List.take_append_drop]
    omega
  have := h j
  omega
theorem OpenQ.le {l : List St} {out : List Int} {op : Nat → Nat} (h : OpenQ l out op) (j : Nat) : op j ≤ arcN l := by
  have h2 := openS_le l out j l.length (Nat.le_refl _)
  rw [List.take_length] at h2
  rw [h j]; exact h2
/-- How many arcs of the first k states lead to j. -/
def leadC (l : List St) (j : Nat) (k : Nat) : Nat := openS l [] j k
theorem leadC_succ (l : List St) (j k : Nat) : leadC l j (k + 1) = leadC l j k + toC j (el l k).2 := by simp [leadC, openS]
theorem leadC_open (l : List St) : OpenQ l [] (fun j => leadC l j l.length) := fun _ => rfl
end Go.Proofs.YtfekmlblldhieaaGreatDoor.Pl
namespace Go.Proofs.YtfekmlblldhieaaGreatDoor.Pl
def updN (x : Nat → Nat) (t k : Nat) : Nat → Nat := fun j => if j = t then k else x j
/-- Along these arcs of q. -/
def addA (q : Nat) : List Ar → (Nat → Nat) → Nat → Nat
  | [], x => x
  | a :: l, x => addA q l (updN x a.2.2.2.toNat (x a.2.2.2.toNat + x q))
theorem addA_append (q : Nat) (a b : List Ar) (x : Nat → Nat) : addA q (a ++ b) x = addA q b (addA q a x) := by
  induction a generalizing x with
  | nil => rfl
  | cons c a ih => exact ih _
theorem addA_take (q : Nat) {ar : List Ar} {c t : Nat} (h : c < ar.length) (ht : (el ar c).2.2.2 = (t : Int)) (x : Nat → Nat) : addA q (ar.take (c + 1)) x = updN (addA q (ar.take c) x) t (addA q (ar.take c) x t + addA q (ar.take c) x q) := by
  rw [take_el h, addA_append]
  show updN _ (el ar c).2.2.2.toNat _ = _
  rw [ht, Int.toNat_natCast]
/-- Along all states in this order. -/
def addL (l : List St) : List Int → (Nat → Nat) → Nat → Nat
  | [], x => x
  | q :: out, x => addL l out (addA q.toNat (el l q.toNat).2 x)
theorem addL_append (l : List St) (a b : List Int) (x : Nat → Nat) : addL l (a ++ b) x = addL l b (addL l a x) := by
  induction a generalizing x with
  | nil => rfl
  | cons c a ih => exact ih _
theorem addL_take (l : List St) {out : List Int} {i q : Nat} (h : i < out.length) (hq : el out i = (q : Int)) (x : Nat → Nat) : addL l (out.take (i + 1)) x = addA q (el l q).2 (addL l (out.take i) x) := by
  rw [take_el h, addL_append, hq]
  show addA ((q : Int)).toNat _ _ = _
  rw [Int.toNat_natCast]
def dotN (f x : Nat → Nat) : Nat → Nat
  | 0 => 0
  | n + 1 => dotN f x n + f n * x n
theorem dotN_upd (f x : Nat → Nat) (t y : Nat) : ∀ n, dotN f (updN x t (x t + y)) n = dotN f x n + (if t < n then f t * y else 0) := by
  intro n
  induction n with
  | zero => simp [dotN]
  | succ n ih =>
    simp only [dotN, ih, updN]
    by_cases e : n = t
    · subst e
      rw [if_pos rfl, if_neg (by omega), if_pos (by omega), Nat.mul_add]
      omega
    · rw [if_neg e]
      by_cases c : t < n
      · rw [if_pos c, if_pos (by omega)]; omega
      · rw [if_neg c, if_neg (by omega)]; omega
theorem addA_same {q : Nat} {ar : List Ar} (h : ∀ a ∈ ar, a.2.2.2.toNat ≠ q) (x : Nat → Nat) : addA q ar x q = x q := by
  induction ar generalizing x with
  | nil => rfl
  | cons a l ih =>
    show addA q l _ q = _
    rw [ih (fun b hb => h b (by simp [hb]))]
    simp [updN, Ne.symm (h a (by simp))]
theorem dotN_addA (f : Nat → Nat) {q n : Nat} {ar : List Ar} (h : ∀ a ∈ ar, a.2.2.2.toNat ≠ q ∧ a.2.2.2.toNat < n) (x : Nat → Nat) : dotN f (addA q ar x) n = dotN f x n + sumF f ar * x q := by
  induction ar generalizing x with
  | nil => simp [addA, sumF]
  | cons a l ih =>
    show dotN f (addA q l _) n = _
    rw [ih (fun b hb => h b (by simp [hb])), dotN_upd, if_pos (h a (by simp)).2]
    have h1 : updN x a.2.2.2.toNat (x a.2.2.2.toNat + x q) q = x q := by simp [updN, Ne.symm (h a (by simp)).1]
    rw [h1, sumF, Nat.add_mul]
    omega
theorem dotN_but {f g x : Nat → Nat} {q : Nat} (h : ∀ p, p ≠ q → g p = f p) : ∀ n, q < n → ∃ R, dotN f x n = R + f q * x q ∧ dotN g x n = R + g q * x q := by
  have hlow : ∀ n, n ≤ q → dotN g x n = dotN f x n := by
    intro n
    induction n with
    | zero => intro _; rfl
    | succ n ih => intro hn; simp only [dotN]; rw [ih (by omega), h n (by omega)]
  intro n
  induction n with
  | zero => intro hq; omega
  | succ n ih =>
    intro hq
    by_cases e : n = q
    · subst e
      exact ⟨dotN f x n, rfl, by simp only [dotN]; rw [hlow n (Nat.le_refl _)]⟩
    · obtain ⟨R, h1, h2⟩ := ih (by omega)
      refine ⟨R + f n * x n, ?_, ?_⟩
      · simp only [dotN]; omega
      · simp only [dotN]; rw [h n e]; omega
theorem dotN_congr {f g x : Nat → Nat} : ∀ n, (∀ p, p < n → f p = g p) → dotN f x n = dotN g x n := by
  intro n
  induction n with
  | zero => intro _; rfl
  | succ n ih => intro h; simp only [dotN]; rw [ih (fun p hp => h p (by omega)), h n (by omega)]
/-- What counts at a state: behind it all that follows; once it is done, only whether one may end there. -/
def leftN (l : List St) (N : Nat → Nat) (out : List Int) : Nat → Nat := fun p => if (p : Int) ∈ out then baseN (el l p).1 else N p
theorem OrderL.out_later {l : List St} {out : List Int} (h : OrderL l out) {i q : Nat} (hi : i < out.length) (hq : el out i = (q : Int)) {a : Ar} (ha : a ∈ (el l q).2) {t : Nat} (ht : a.2.2.2 = (t : Int)) (htn : t < l.length) : (t : Int) ∉ out.take (i + 1) := by
  have h1 := h.later hi hq ha ht htn
  have h2 := h.ahead h1
  intro hm
  have := h2 _ hm
  simp at this
theorem OrderL.at {l : List St} {out : List Int} (h : OrderL l out) {i : Nat} (hi : i < out.length) : ∃ q : Nat, el out i = (q : Int) ∧ q < l.length ∧ (q : Int) ∉ out.take i := by
  obtain ⟨q, e, hq, hf, _⟩ := h.1 i hi
  exact ⟨q, e, hq, hf.1⟩
theorem along_step {l : List St} {out : List Int} (h : OrderL l out) (hto : ∀ q, q < l.length → ∀ a ∈ (el l q).2, ∃ t : Nat, a.2.2.2 = (t : Int) ∧ t < l.length) {N : Nat → Nat} (hN : CntEq l N) {i q : Nat} (hi : i < out.length) (hq : el out i = (q : Int)) (x : Nat → Nat) :
    dotN (leftN l N (out.take (i + 1))) (addA q (el l q).2 x) l.length = dotN (leftN l N (out.take i)) x l.length := by
  obtain ⟨q', e, hql, hno⟩ := h.at hi
  obtain rfl : q = q' := by rw [hq] at e; omega
  have htk : out.take (i + 1) = out.take i ++ [(q : Int)] := by rw [take_el hi, hq]
  have harc : ∀ a ∈ (el l q).2, a.2.2.2.toNat ≠ q ∧ a.2.2.2.toNat < l.length := by
    intro a ha
    obtain ⟨t, ht, htn⟩ := hto q hql a ha
    have h1 := h.out_later hi hq ha ht htn
    rw [ht, Int.toNat_natCast]
    refine ⟨fun e2 => h1 ?_, htn⟩
    rw [htk, e2]; simp
  rw [dotN_addA _ harc]
  have hsum : sumF (leftN l N (out.take (i + 1))) (el l q).2 = sumF N (el l q).2 := by
    refine sumF_congr fun a ha => ?_
    obtain ⟨t, ht, htn⟩ := hto q hql a ha
    have h1 := h.out_later hi hq ha ht htn
    rw [ht, Int.toNat_natCast]
    simp [leftN, h1]
  rw [hsum]
  have hother : ∀ p, p ≠ q → leftN l N (out.take (i + 1)) p = leftN l N (out.take i) p := by
    intro p hp
    have : ((p : Int) ∈ out.take (i + 1)) ↔ (p : Int) ∈ out.take i := by
      rw [htk, List.mem_append, List.mem_singleton]
      constructor
      · rintro (h9 | h9)
        · exact h9
        · exact absurd (by omega) hp
      · exact .inl
    simp only [leftN, this]
  obtain ⟨R, h1, h2⟩ := dotN_but (x := x) hother l.length hql
  have e1 : leftN l N (out.take i) q = N q := by simp only [leftN]; rw [if_neg hno]
  have e2 : leftN l N (out.take (i + 1)) q = baseN (el l q).1 := by simp only [leftN]; rw [if_pos (by rw [htk]; simp)]
  rw [h1, h2, e1, e2, hN q hql, Nat.add_mul]
  omega
theorem along_all {l : List St} {out : List Int} (h : OrderL l out) (hto : ∀ q, q < l.length → ∀ a ∈ (el l q).2, ∃ t : Nat, a.2.2.2 = (t : Int) ∧ t < l.length) {N : Nat → Nat} (hN : CntEq l N) (x : Nat → Nat) :
    dotN (fun p => baseN (el l p).1) (addL l out x) l.length = dotN N x l.length := by
  have key : ∀ i, i ≤ out.length → dotN (leftN l N (out.take i)) (addL l (out.take i) x) l.length = dotN N x l.length := by
    intro i
    induction i with
    | zero => intro _; exact dotN_congr _ (fun p _ => by simp [leftN])
    | succ i ih =>
      intro hi
      obtain ⟨q, hq, _⟩ := h.at (i := i) (by omega)
      rw [addL_take l (by omega) hq, along_step h hto hN (by omega) hq]
      exact ih (by omega)
  have := key out.length (Nat.le_refl _)
  rw [List.take_length] at this
  rw [← this]
  exact dotN_congr _ (fun p hp => by simp [leftN, h.all hp])
/-- At the start. -/
def begN (z : Int) : Nat → Nat := fun j => if (j : Int) = z then 1 else 0
theorem dotN_beg (N : Nat → Nat) (z : Int) : ∀ n, dotN N (begN z) n = if 0 ≤ z ∧ z < (n : Int) then N z.toNat else 0 := by
  intro n
  induction n with
  | zero => simp [dotN]; omega
  | succ n ih =>
    simp only [dotN, ih, begN]
    by_cases e : (n : Int) = z
    · subst e
      rw [if_pos rfl, if_neg (by omega), if_pos (by omega)]
      simp
    · rw [if_neg e]
      by_cases c : 0 ≤ z ∧ z < (n : Int)
      · rw [if_pos c, if_pos (by omega)]; omega
      · rw [if_neg c, if_neg (by omega)]; omega
theorem along_count {l : List St} {out : List Int} {z : Int} (h : OrderL l out) (hto : ∀ q, q < l.length → ∀ a ∈ (el l q).2, ∃ t : Nat, a.2.2.2 = (t : Int) ∧ t < l.length) (hz : -1 ≤ z ∧ z < (l.length : Int)) :
    dotN (fun p => baseN (el l p).1) (addL l out (begN z)) l.length = if z < 0 then 0 else cntF l out z.toNat := by
  rw [along_all h hto (h.cnt hto), dotN_beg]
  by_cases c : z < 0
  · rw [if_pos c, if_neg (by omega)]
  · rw [if_neg c, if_pos (by omega)]
end Go.Proofs.YtfekmlblldhieaaGreatDoor.Pl
namespace Go.Proofs.YtfekmlblldhieaaGreatDoor.Pl
def updO (x : Nat → Int) (t : Nat) (k : Int) : Nat → Int := fun j => if j = t then k else x j
def addM (q : Nat) : List Ar → (Nat → Int) → Nat → Int
  | [], x => x
  | a :: l, x => addM q l (updO x a.2.2.2.toNat (max (x a.2.2.2.toNat) (x q + 1)))
theorem addM_append (q : Nat) (a b : List Ar) (x : Nat → Int) : addM q (a ++ b) x = addM q b (addM q a x) := by
  induction a generalizing x with
  | nil => rfl
  | cons c a ih => exact ih _
theorem addM_take (q : Nat) {ar : List Ar} {c t : Nat} (h : c < ar.length) (ht : (el ar c).2.2.2 = (t : Int)) (x : Nat → Int) : addM q (ar.take (c + 1)) x = updO (addM q (ar.take c) x) t (max (addM q (ar.take c) x t) (addM q (ar.take c) x q + 1)) := by
  rw [take_el h, addM_append]
  show updO _ (el ar c).2.2.2.toNat _ = _
  rw [ht, Int.toNat_natCast]
/-- Along the arcs of q, if there is a way to it. -/
def wayQ (l : List St) (q : Nat) (x : Nat → Int) : Nat → Int := if x q = -1 then x else addM q (el l q).2 x
def addW (l : List St) : List Int → (Nat → Int) → Nat → Int
  | [], x => x
  | q :: out, x => addW l out (wayQ l q.toNat x)
theorem addW_append (l : List St) (a b : List Int) (x : Nat → Int) : addW l (a ++ b) x = addW l b (addW l a x) := by
  induction a generalizing x with
  | nil => rfl
  | cons c a ih => exact ih _
theorem addW_take (l : List St) {out : List Int} {i q : Nat} (h : i < out.length) (hq : el out i = (q : Int)) (x : Nat → Int) : addW l (out.take (i + 1)) x = wayQ l q (addW l (out.take i) x) := by
  rw [take_el h, addW_append, hq]
  show wayQ l ((q : Int)).toNat _ = _
  rw [Int.toNat_natCast]
/-- One behind the other; -1: there is none. -/
def mulD (a b : Int) : Int := if a < 0 ∨ b < 0 then -1 else a + b
theorem mulD_max (f a b : Int) : mulD f (max a b) = max (mulD f a) (mulD f b) := by
  unfold mulD
  split <;> split <;> split <;> omega
theorem mulD_step (n d y : Int) (hy : 0 ≤ y) : mulD (stepD n d) y = max (mulD n y) (mulD d (y + 1)) := by
  unfold mulD stepD
  split <;> split <;> split <;> (try split) <;> omega
theorem mulD_ge (a b : Int) : -1 ≤ mulD a b := by
  unfold mulD; split <;> omega
def dotD (f x : Nat → Int) : Nat → Int
  | 0 => -1
  | n + 1 => max (dotD f x n) (mulD (f n) (x n))
theorem dotD_upd (f x : Nat → Int) (t : Nat) (y : Int) : ∀ n, dotD f (updO x t (max (x t) y)) n = if t < n then max (dotD f x n) (mulD (f t) y) else dotD f x n := by
  intro n
  induction n with
  | zero => simp [dotD]
  | succ n ih =>
    simp only [dotD, ih, updO]
    by_cases e : n = t
    · subst e
      rw [if_pos rfl, if_neg (by omega), if_pos (by omega), mulD_max]
      omega
    · rw [if_neg e]
      by_cases c : t < n
      · rw [if_pos c, if_pos (by omega)]; omega
      · rw [if_neg c, if_neg (by omega)]
def maxM (f : Nat → Int) (y : Int) : Int → List Ar → Int
  | m, [] => m
  | m, a :: l => maxM f y (max m (mulD (f a.2.2.2.toNat) y)) l
theorem maxM_max (f : Nat → Int) (y : Int) (ar : List Ar) (m k : Int) : maxM f y (max k m) ar = max k (maxM f y m ar) := by
  induction ar generalizing m with
  | nil => rfl
  | cons a l ih =>
    simp only [maxM]
    rw [← ih]
    congr 1
    omega
theorem maxM_congr {f g : Nat → Int} {ar : List Ar} (h : ∀ a ∈ ar, f a.2.2.2.toNat = g a.2.2.2.toNat) (y m : Int) : maxM f y m ar = maxM g y m ar := by
  induction ar generalizing m with
  | nil => rfl
  | cons a l ih => simp only [maxM]; rw [h a (by simp)]; exact ih (fun b hb => h b (by simp [hb])) _
theorem mulD_maxF (N : Nat → Int) (y : Int) (hy : 0 ≤ y) (ar : List Ar) (b : Int) : mulD (maxF N b ar) y = maxM N (y + 1) (mulD b y) ar := by
  induction ar generalizing b with
  | nil => rfl
  | cons a l ih =>
    simp only [maxF, maxM]
    rw [ih, mulD_step _ _ _ hy]
theorem addM_same {q : Nat} {ar : List Ar} (h : ∀ a ∈ ar, a.2.2.2.toNat ≠ q) (x : Nat → Int) : addM q ar x q = x q := by
  induction ar generalizing x with
  | nil => rfl
  | cons a l ih =>
    show addM q l _ q = _
    rw [ih (fun b hb => h b (by simp [hb]))]
    simp [updO, Ne.symm (h a (by simp))]
theorem dotD_addM (f : Nat → Int) {q n : Nat} {ar : List Ar} (h : ∀ a ∈ ar, a.2.2.2.toNat ≠ q ∧ a.2.2.2.toNat < n) (x : Nat → Int) : dotD f (addM q ar x) n = maxM f (x q + 1) (dotD f x n) ar := by
  induction ar generalizing x with
  | nil => rfl
  | cons a l ih =>
    show dotD f (addM q l _) n = _
    rw [ih (fun b hb => h b (by simp [hb])), dotD_upd, if_pos (h a (by simp)).2]
    have h1 : updO x a.2.2.2.toNat (max (x a.2.2.2.toNat) (x q + 1)) q = x q := by simp [updO, Ne.symm (h a (by simp)).1]
    rw [h1]
    rfl
theorem dotD_ge (f x : Nat → Int) : ∀ n, -1 ≤ dotD f x n := by
  intro n
  induction n with
  | zero => simp [dotD]
  | succ n ih => simp only [dotD]; omega
theorem dotD_but {f g x : Nat → Int} {q : Nat} (h : ∀ p, p ≠ q → g p = f p) : ∀ n, q < n → ∃ R, -1 ≤ R ∧ dotD f x n = max R (mulD (f q) (x q)) ∧ dotD g x n = max R (mulD (g q) (x q)) := by
  have hlow : ∀ n, n ≤ q → dotD g x n = dotD f x n := by
    intro n
    induction n with
    | zero => intro _; rfl
    | succ n ih => intro hn; simp only [dotD]; rw [ih (by omega), h n (by omega)]
  intro n
  induction n with
  | zero => intro hq; omega
  | succ n ih =>
    intro hq
    by_cases e : n = q
    · subst e
      exact ⟨dotD f x n, dotD_ge f x n, rfl, by simp only [dotD]; rw [hlow n (Nat.le_refl _)]⟩
    · obtain ⟨R, h0, h1, h2⟩ := ih (by omega)
      refine ⟨max R (mulD (f n) (x n)), by omega, ?_, ?_⟩
      · simp only [dotD]; omega
      · simp only [dotD]; rw [h n e]; omega
theorem dotD_congr {f g x : Nat → Int} : ∀ n, (∀ p, p < n → f p = g p) → dotD f x n = dotD g x n := by
  intro n
  induction n with
  | zero => intro _; rfl
  | succ n ih => intro h; simp only [dotD]; rw [ih (fun p hp => h p (by omega)), h n (by omega)]
def leftD (l : List St) (N : Nat → Int) (out : List Int) : Nat → Int := fun p => if (p : Int) ∈ out then baseD (el l p).1 else N p
/-- Numbers of arcs. -/
def WayB (x : Nat → Int) (k : Int) : Prop := ∀ j, -1 ≤ x j ∧ x j ≤ k
theorem WayB.addM {x : Nat → Int} {k : Int} {q : Nat} {ar : List Ar} (h : WayB x k) (hq : ∀ a ∈ ar, a.2.2.2.toNat ≠ q) (hk : x q + 1 ≤ k) : WayB (addM q ar x) k := by
  induction ar generalizing x with
  | nil => exact h
  | cons a l ih =>
    have h1 : updO x a.2.2.2.toNat (max (x a.2.2.2.toNat) (x q + 1)) q = x q := by simp [updO, Ne.symm (hq a (by simp))]
    refine ih (x := updO x a.2.2.2.toNat (max (x a.2.2.2.toNat) (x q + 1))) (fun j => ?_) (fun b hb => hq b (by simp [hb])) (by rw [h1]; exact hk)
    have h2 := h j
    have h3 := h a.2.2.2.toNat
    simp only [updO]
    split <;> omega
theorem WayB.up {x : Nat → Int} {k k' : Int} (h : WayB x k) (hk : k ≤ k') : WayB x k' := fun j => ⟨(h j).1, by have := (h j).2; omega⟩
theorem arc_facts {l : List St} {out : List Int} (h : OrderL l out) (hto : ∀ q, q < l.length → ∀ a ∈ (el l q).2, ∃ t : Nat, a.2.2.2 = (t : Int) ∧ t < l.length) {i q : Nat} (hi : i < out.length) (hq : el out i = (q : Int)) : ∀ a ∈ (el l q).2, a.2.2.2.toNat ≠ q ∧ a.2.2.2.toNat < l.length := by
  obtain ⟨q', e, hql, hno⟩ := h.at hi
  obtain rfl : q = q' := by rw [hq] at e; omega
  have htk : out.take (i + 1) = out.take i ++ [(q : Int)] := by rw [take_el hi, hq]
  intro a ha
  obtain ⟨t, ht, htn⟩ := hto q hql a ha
  have h1 := h.out_later hi hq ha ht htn
  rw [ht, Int.toNat_natCast]
  refine ⟨fun e2 => h1 ?_, htn⟩
  rw [htk, e2]; simp
theorem way_step {l : List St} {out : List Int} (h : OrderL l out) (hto : ∀ q, q < l.length → ∀ a ∈ (el l q).2, ∃ t : Nat, a.2.2.2 = (t : Int) ∧ t < l.length) {N : Nat → Int} (hN : FarEq l N) {i q : Nat} (hi : i < out.length) (hq : el out i = (q : Int)) (x : Nat → Int) (hx : ∀ j, -1 ≤ x j) :
    dotD (leftD l N (out.take (i + 1))) (wayQ l q x) l.length = dotD (leftD l N (out.take i)) x l.length := by
  obtain ⟨q', e, hql, hno⟩ := h.at hi
  obtain rfl : q = q' := by rw [hq] at e; omega
  have htk : out.take (i + 1) = out.take i ++ [(q : Int)] := by rw [take_el hi, hq]
  have harc := arc_facts h hto hi hq
  have hother : ∀ p, p ≠ q → leftD l N (out.take (i + 1)) p = leftD l N (out.take i) p := by
    intro p hp
    have : ((p : Int) ∈ out.take (i + 1)) ↔ (p : Int) ∈ out.take i := by
      rw [htk, List.mem_append, List.mem_singleton]
      constructor
      · rintro (h9 | h9)
        · exact h9
        · exact absurd (by omega) hp
      · exact .inl
    simp only [leftD, this]
  have e1 : leftD l N (out.take i) q = N q := by simp only [leftD]; rw [if_neg hno]
  have e2 : leftD l N (out.take (i + 1)) q = baseD (el l q).1 := by simp only [leftD]; rw [if_pos (by rw [htk]; simp)]
  obtain ⟨R, h0, h1, h2⟩ := dotD_but (x := x) hother l.length hql
  rw [h1, e1]
  unfold wayQ
  by_cases c : x q = -1
  · rw [if_pos c, h2, e2, c]
    have z1 : ∀ a, mulD a (-1) = -1 := fun a => by unfold mulD; rw [if_pos (by omega)]
    rw [z1, z1]
  · rw [if_neg c, dotD_addM _ harc]
    have hsum : maxM (leftD l N (out.take (i + 1))) (x q + 1) (dotD (leftD l N (out.take (i + 1))) x l.length) (el l q).2 = maxM N (x q + 1) (dotD (leftD l N (out.take (i + 1))) x l.length) (el l q).2 := by
      refine maxM_congr (fun a ha => ?_) _ _
      obtain ⟨t, ht, htn⟩ := hto q hql a ha
      have h1 := h.out_later hi hq ha ht htn
      rw [ht, Int.toNat_natCast]
      simp [leftD, h1]
    have h3 := hx q
    rw [hsum, h2, e2, maxM_max, hN q hql, mulD_maxF N (x q) (by omega)]
/-- At the start. -/
def begD (z : Int) : Nat → Int := fun j => if (j : Int) = z then 0 else -1
theorem way_bound {l : List St} {out : List Int} (h : OrderL l out) (hto : ∀ q, q < l.length → ∀ a ∈ (el l q).2, ∃ t : Nat, a.2.2.2 = (t : Int) ∧ t < l.length) (z : Int) : ∀ i, i ≤ out.length → WayB (addW l (out.take i) (begD z)) (i : Int) := by
  intro i
  induction i with
  | zero => intro _ j; show -1 ≤ begD z j ∧ begD z j ≤ _; unfold begD; split <;> omega
  | succ i ih =>
    intro hi
    obtain ⟨q, hq, _⟩ := h.at (i := i) (by omega)
    rw [addW_take l (by omega) hq]
    have h1 := ih (by omega)
    unfold wayQ
    split
    · exact h1.up (by omega)
    · refine (h1.up (k' := ((i + 1 : Nat) : Int)) (by omega)).addM (fun a ha => (arc_facts h hto (by omega) hq a ha).1) ?_
      have := (h1 q).2
      omega
theorem way_all {l : List St} {out : List Int} (h : OrderL l out) (hto : ∀ q, q < l.length → ∀ a ∈ (el l q).2, ∃ t : Nat, a.2.2.2 = (t : Int) ∧ t < l.length) {N : Nat → Int} (hN : FarEq l N) (z : Int) :
    dotD (fun p => baseD (el l p).1) (addW l out (begD z)) l.length = dotD N (begD z) l.length := by
  have key : ∀ i, i ≤ out.length → dotD (leftD l N (out.take i)) (addW l (out.take i) (begD z)) l.length = dotD N (begD z) l.length := by
    intro i
    induction i with
    | zero => intro _; exact dotD_congr _ (fun p _ => by simp [leftD])
    | succ i ih =>
      intro hi
      obtain ⟨q, hq, _⟩ := h.at (i := i) (by omega)
      rw [addW_take l (by omega) hq, way_step h hto hN (by omega) hq _ (fun j => (way_bound h hto z i (by omega) j).1)]
      exact ih (by omega)
  have := key out.length (Nat.le_refl _)
  rw [List.take_length] at this
  rw [← this]
  exact dotD_congr _ (fun p hp => by simp [leftD, h.all hp])
theorem dotD_beg (N : Nat → Int) (z : Int) (hN : ∀ p, -1 ≤ N p) : ∀ n, dotD N (begD z) n = if 0 ≤ z ∧ z < (n : Int) then N z.toNat else -1 := by
  intro n
  induction n with
  | zero => simp [dotD]; omega
  | succ n ih =>
    simp only [dotD, ih, begD]
    by_cases e : (n : Int) = z
    · subst e
      rw [if_pos rfl, if_neg (by omega), if_pos (by omega)]
      have := hN n
      simp only [Int.toNat_natCast, mulD]
      split <;> omega
    · rw [if_neg e]
      have z1 : mulD (N n) (-1) = -1 := by unfold mulD; rw [if_pos (by omega)]
      rw [z1]
      by_cases c : 0 ≤ z ∧ z < (n : Int)
      · rw [if_pos c, if_pos (by omega)]; have := hN z.toNat; omega
      · rw [if_neg c, if_neg (by omega)]; omega
theorem maxF_low (f : Nat → Int) (ar : List Ar) (n : Int) (hn : -1 ≤ n) : -1 ≤ maxF f n ar := by
  induction ar generalizing n with
  | nil => exact hn
  | cons a l ih => exact ih _ (by unfold stepD; split <;> omega)
theorem far_ge (l : List St) (out : List Int) (p : Nat) : -1 ≤ farF l out p := by
  induction out generalizing p with
  | nil => show -1 ≤ (0 : Int); omega
  | cons x out ih =>
    show -1 ≤ (if p = x.toNat then _ else _)
    split
    · exact maxF_low _ _ _ (by unfold baseD; split <;> omega)
    · exact ih p
theorem way_far {l : List St} {out : List Int} {z : Int} (h : OrderL l out) (hto : ∀ q, q < l.length → ∀ a ∈ (el l q).2, ∃ t : Nat, a.2.2.2 = (t : Int) ∧ t < l.length) (hz : -1 ≤ z ∧ z < (l.length : Int)) :
    dotD (fun p => baseD (el l p).1) (addW l out (begD z)) l.length = if z < 0 then -1 else farF l out z.toNat := by
  rw [way_all h hto (h.far hto), dotD_beg _ _ (far_ge l out)]
  by_cases c : z < 0
  · rw [if_pos c, if_neg (by omega)]
  · rw [if_neg c, if_pos (by omega)]
end Go.Proofs.YtfekmlblldhieaaGreatDoor.Pl
