/- A heap of ways (four numbers, the last one the cost), the cheapest one first: what goes up, what goes down (no program in sight). -/
import Derived.Test.YtfekmlblldhieaaGreatDoorPlainK
namespace Go.Proofs.YtfekmlblldhieaaGreatDoor.Pl
/-- Two places exchanged. -/
def swpW (l : List Ar) (i j : Nat) : List Ar := (l.set i (el l j)).set j (el l i)
theorem swpW_length (l : List Ar) (i j : Nat) : (swpW l i j).length = l.length := by simp [swpW]
theorem el_setW {l : List Ar} {q j : Nat} (hq : q < l.length) (x : Ar) : el (l.set q x) j = if j = q then x else el l j := by
  by_cases h : j = q
  · subst h; rw [if_pos rfl, el_get (by simpa using hq)]; simp
  · rw [if_neg h]; simp [el, List.getElem?_set_ne (Ne.symm h)]
theorem el_swpW {l : List Ar} {i j : Nat} (hi : i < l.length) (hj : j < l.length) (k : Nat) : el (swpW l i j) k = if k = j then el l i else if k = i then el l j else el l k := by
  unfold swpW
  rw [el_setW (by simpa using hj), el_setW hi]
theorem swpW_perm {l : List Ar} {i j : Nat} (hi : i < l.length) (hj : j < l.length) : (swpW l i j).Perm l := by
  have h := Array.swap_perm (xs := l.toArray) (i := i) (j := j) (by simpa using hi) (by simpa using hj)
  rw [Array.perm_iff_toList_perm] at h
  have e : (l.toArray.swap i j (by simpa using hi) (by simpa using hj)).toList = swpW l i j := by
    unfold swpW
    rw [el_get hi, el_get hj]
    simp [Array.swap]
  rw [e] at h
  exact h
theorem swpW_drop {l : List Ar} {i j n : Nat} (hi : i < n) (hj : j < n) : (swpW l i j).drop n = l.drop n := by
  unfold swpW
  rw [List.drop_set_of_lt (by omega), List.drop_set_of_lt (by omega)]
/-- Of the first n ones none is less than the one above it. -/
def HeapW (l : List Ar) (n : Nat) : Prop := ∀ k, 0 < k → k < n → (el l ((k - 1) / 2)).2.2.2 ≤ (el l k).2.2.2
theorem HeapW.nil : HeapW [] 0 := fun _ _ h => absurd h (Nat.not_lt_zero _)
theorem HeapW.root {l : List Ar} {n : Nat} (h : HeapW l n) : ∀ k, k < n → (el l 0).2.2.2 ≤ (el l k).2.2.2 := by
  intro k
  induction k using Nat.strongRecOn with
  | ind k ih =>
    intro hk
    by_cases e : k = 0
    · subst e; exact Int.le_refl _
    · have h1 := h k (by omega) hk
      have h2 := ih ((k - 1) / 2) (by omega) (by omega)
      omega
theorem HeapW.left {l r : List Ar} {n : Nat} (h : HeapW (l ++ r) n) (hn : n ≤ l.length) : HeapW l n := by
  intro k h0 hk
  have := h k h0 hk
  rwa [el_left (by omega), el_left (by omega)] at this
/-- A heap but for what stands at j, which may be too low. -/
def UpW (l : List Ar) (j : Nat) : Prop := ∀ k, 0 < k → k < l.length → (k ≠ j → (el l ((k - 1) / 2)).2.2.2 ≤ (el l k).2.2.2) ∧ (0 < j → (k - 1) / 2 = j → (el l ((j - 1) / 2)).2.2.2 ≤ (el l k).2.2.2)
theorem UpW.start {l : List Ar} (h : HeapW l l.length) (x : Ar) : UpW (l ++ [x]) l.length := by
  intro k h0 hk
  have hk' : k < l.length + 1 := by simpa using hk
  constructor
  · intro hne
    rw [el_left (by omega), el_left (by omega)]
    exact h k h0 (by omega)
  · intro h1 h2; omega
theorem UpW.swap {l : List Ar} {j : Nat} (h : UpW l j) (h0 : 0 < j) (hj : j < l.length) (hlt : (el l j).2.2.2 < (el l ((j - 1) / 2)).2.2.2) : UpW (swpW l ((j - 1) / 2) j) ((j - 1) / 2) := by
  generalize hi : (j - 1) / 2 = i at *
  have hij : i < j := by omega
  intro k hk0 hk
  rw [swpW_length] at hk
  have hjj := h j h0 hj
  have hkk := h k hk0 hk
  have e := fun p => el_swpW (l := l) (i := i) (j := j) (by omega) hj p
  constructor
  · intro hki
    rw [e k, if_neg hki, e ((k - 1) / 2)]
    by_cases c1 : k = j
    · subst c1
      rw [if_pos rfl, hi, if_neg (by omega), if_pos rfl]
      omega
    · rw [if_neg c1]
      have h1 := hkk.1 c1
      by_cases c2 : (k - 1) / 2 = j
      · rw [if_pos c2]
        have := hkk.2 h0 c2
        rw [hi] at this
        exact this
      · rw [if_neg c2]
        by_cases c3 : (k - 1) / 2 = i
        · rw [if_pos c3]
          rw [c3] at h1
          omega
        · rw [if_neg c3]; exact h1
  · intro hi0 hki
    have hpi : (i - 1) / 2 < i := by omega
    rw [e ((i - 1) / 2), if_neg (by omega), if_neg (by omega), e k]
    have h1 := (h i hi0 (by omega)).1 (by omega)
    by_cases c1 : k = j
    · rw [if_pos c1]; exact h1
    · rw [if_neg c1, if_neg (by omega)]
      have h2 := hkk.1 c1
      rw [hki] at h2
      omega
theorem UpW.top {l : List Ar} (h : UpW l 0) : HeapW l l.length := fun k h0 hk => (h k h0 hk).1 (by omega)
theorem UpW.stop {l : List Ar} {j : Nat} (h : UpW l j) (hle : ¬ (el l j).2.2.2 < (el l ((j - 1) / 2)).2.2.2) : HeapW l l.length := by
  intro k h0 hk
  by_cases c : k = j
  · subst c; omega
  · exact (h k h0 hk).1 c
/-- The first n are a heap but for what stands at i, which may be too high. -/
def DownW (l : List Ar) (i n : Nat) : Prop := ∀ k, 0 < k → k < n → ((k - 1) / 2 ≠ i → (el l ((k - 1) / 2)).2.2.2 ≤ (el l k).2.2.2) ∧ (0 < i → (k - 1) / 2 = i → (el l ((i - 1) / 2)).2.2.2 ≤ (el l k).2.2.2)
theorem DownW.start {l : List Ar} {n : Nat} (h : HeapW l l.length) (hn : l.length = n + 1) : DownW (swpW l 0 n) 0 n := by
  intro k h0 hk
  have e := fun p => el_swpW (l := l) (i := 0) (j := n) (by omega) (by omega) p
  constructor
  · intro hne
    rw [e, e k, if_neg (by omega), if_neg (by omega), if_neg (by omega), if_neg (by omega)]
    exact h k h0 (by omega)
  · intro h1; omega
/-- c: the lesser one of those below i. -/
def LowW (l : List Ar) (i n c : Nat) : Prop := c < n ∧ 0 < c ∧ (c - 1) / 2 = i ∧ ∀ k, 0 < k → k < n → (k - 1) / 2 = i → (el l c).2.2.2 ≤ (el l k).2.2.2
theorem LowW.left {l : List Ar} {i n : Nat} (h1 : 2 * i + 1 < n) (h2 : 2 * i + 1 + 1 < n → ¬ (el l (2 * i + 1 + 1)).2.2.2 < (el l (2 * i + 1)).2.2.2) : LowW l i n (2 * i + 1) := by
  refine ⟨h1, by omega, by omega, fun k k0 hk hp => ?_⟩
  have : k = 2 * i + 1 ∨ k = 2 * i + 1 + 1 := by omega
  rcases this with rfl | rfl
  · exact Int.le_refl _
  · have := h2 hk; omega
theorem LowW.right {l : List Ar} {i n : Nat} (h1 : 2 * i + 1 + 1 < n) (h2 : (el l (2 * i + 1 + 1)).2.2.2 < (el l (2 * i + 1)).2.2.2) : LowW l i n (2 * i + 1 + 1) := by
  refine ⟨h1, by omega, by omega, fun k k0 hk hp => ?_⟩
  have : k = 2 * i + 1 ∨ k = 2 * i + 1 + 1 := by omega
  rcases this with rfl | rfl
  · omega
  · exact Int.le_refl _
theorem DownW.swap {l : List Ar} {i n c : Nat} (h : DownW l i n) (hn : n ≤ l.length) (hc : LowW l i n c) (hlt : (el l c).2.2.2 < (el l i).2.2.2) : DownW (swpW l i c) c n := by
  obtain ⟨hcn, hc0, hci, hmin⟩ := hc
  have hic : i < c := by omega
  intro k hk0 hk
  have e := fun p => el_swpW (l := l) (i := i) (j := c) (by omega) (by omega) p
  constructor
  · intro hkc
    rw [e ((k - 1) / 2), if_neg hkc, e k]
    by_cases c3 : (k - 1) / 2 = i
    · rw [if_pos c3]
      by_cases c1 : k = c
      · rw [if_pos c1]; omega
      · rw [if_neg c1, if_neg (by omega)]
        exact hmin k hk0 hk c3
    · rw [if_neg c3]
      have h1 := (h k hk0 hk).1 c3
      by_cases c1 : k = c
      · subst c1; exact absurd hci c3
      · rw [if_neg c1]
        by_cases c2 : k = i
        · subst c2
          rw [if_pos rfl]
          exact (h c hc0 hcn).2 hk0 hci
        · rw [if_neg c2]; exact h1
  · intro _ hkc
    rw [hci, e i, if_neg (by omega), if_pos rfl, e k, if_neg (by omega), if_neg (by omega)]
    have h1 := (h k hk0 hk).1 (by omega)
    rw [hkc] at h1
    exact h1
theorem DownW.leaf {l : List Ar} {i n : Nat} (h : DownW l i n) (hl : n ≤ 2 * i + 1) : HeapW l n := fun k h0 hk => (h k h0 hk).1 (by omega)
theorem DownW.stop {l : List Ar} {i n c : Nat} (h : DownW l i n) (hc : LowW l i n c) (hle : ¬ (el l c).2.2.2 < (el l i).2.2.2) : HeapW l n := by
  intro k h0 hk
  by_cases e : (k - 1) / 2 = i
  · have := hc.2.2.2 k h0 hk e
    rw [e]; omega
  · exact (h k h0 hk).1 e
/-- The least one taken out. -/
theorem popW_facts {l m : List Ar} {n : Nat} (h : HeapW l l.length) (hn : l.length = n + 1) (hp : m.Perm (swpW l 0 n)) (hd : m.drop n = (swpW l 0 n).drop n) (hm : HeapW m n) :
    el m n = el l 0 ∧ HeapW (m.take n) n ∧ (el l 0 :: m.take n).Perm l ∧ ∀ y ∈ m.take n, (el l 0).2.2.2 ≤ y.2.2.2 := by
  have hml : m.length = n + 1 := by rw [hp.length_eq, swpW_length, hn]
  have h1 : el m n = el l 0 := by
    have e1 : el (m.drop n) 0 = el m n := by simp [el]
    have e2 : el ((swpW l 0 n).drop n) 0 = el (swpW l 0 n) n := by simp [el]
    rw [← e1, hd, e2, el_swpW (by omega) (by omega), if_pos rfl]
  have h2 : m = m.take n ++ [el l 0] := by
    have := take_el (l := m) (k := n) (by omega)
    rw [List.take_of_length_le (by omega), h1] at this
    exact this
  have h3 : (el l 0 :: m.take n).Perm l := by
    have h4 : m.Perm l := hp.trans (swpW_perm (by omega) (by omega))
    rw [h2] at h4
    exact (List.perm_append_singleton _ _).symm.trans h4
  refine ⟨h1, ?_, h3, fun y hy => ?_⟩
  · intro k h0 hk
    rw [el_take (by omega), el_take hk]
    exact hm k h0 hk
  · have : y ∈ l := h3.mem_iff.1 (List.mem_cons_of_mem _ hy)
    obtain ⟨k, hk, rfl⟩ := mem_el this
    exact h.root k hk
end Go.Proofs.YtfekmlblldhieaaGreatDoor.Pl
