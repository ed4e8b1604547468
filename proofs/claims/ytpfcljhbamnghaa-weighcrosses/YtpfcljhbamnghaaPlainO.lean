/- What comes ahead of what: the order is the only one; paths counted along it (no program in sight). -/
import Derived.Test.YtpfcljhbamnghaaPlainK
namespace Go.Proofs.Ytpfcljhbamnghaa.Pl
theorem all_any_take {ar : List Ar} {j : Nat} (h : j < ar.length) (p : Ar → Bool) : (ar.take (j + 1)).any p = ((ar.take j).any p || p (el ar j)) := by
  rw [take_el h]; simp
/-- Does an arc lead from p to q? -/
def leadsB (l : List St) (p q : Nat) : Bool := (el l p).2.any fun a => decide (a.2.2.2 = (q : Int))
/-- q may come next: it is not told yet, and all states from which an arc leads to it are. -/
def FreeQ (l : List St) (out : List Int) (q : Nat) : Prop := (q : Int) ∉ out ∧ ∀ p, p < l.length → leadsB l p q = true → (p : Int) ∈ out
/-- The lowest one that may come next. -/
def NextQ (l : List St) (out : List Int) (x : Int) : Prop := ∃ q : Nat, x = (q : Int) ∧ q < l.length ∧ FreeQ l out q ∧ ∀ p, p < q → ¬ FreeQ l out p
theorem NextQ.one {l : List St} {out : List Int} {x y : Int} (h : NextQ l out x) (k : NextQ l out y) : x = y := by
  obtain ⟨q, rfl, hq, h1, h2⟩ := h
  obtain ⟨p, rfl, hp, k1, k2⟩ := k
  rcases Nat.lt_trichotomy q p with e | e | e
  · exact absurd h1 (k2 q e)
  · rw [e]
  · exact absurd k1 (h2 p e)
/-- Each one comes next behind those ahead of it. -/
def StepsL (l : List St) (out : List Int) : Prop := ∀ i, i < out.length → NextQ l (out.take i) (el out i)
theorem StepsL.nil (l : List St) : StepsL l [] := fun _ hi => absurd hi (Nat.not_lt_zero _)
theorem StepsL.snoc {l : List St} {out : List Int} {x : Int} (h : StepsL l out) (hx : NextQ l out x) : StepsL l (out ++ [x]) := by
  intro i hi
  by_cases e : i < out.length
  · rw [el_left e, List.take_append_of_le_length (by omega)]
    exact h i e
  · have : i = out.length := by simp at hi; omega
    subst this
    rw [el_last, List.take_left]
    exact hx
theorem StepsL.take {l : List St} {a b : List Int} (ha : StepsL l a) (hb : StepsL l b) : ∀ i, i ≤ a.length → i ≤ b.length → a.take i = b.take i := by
  intro i
  induction i with
  | zero => simp
  | succ i ih =>
    intro h1 h2
    have h3 := ih (by omega) (by omega)
    have h4 := ha i (by omega)
    have h5 := hb i (by omega)
    rw [← h3] at h5
    rw [take_el (by omega), take_el (by omega), h3, h4.one h5]
/-- There is an order, and it is this one. -/
def OrderL (l : List St) (out : List Int) : Prop := StepsL l out ∧ out.length = l.length
/-- There is none. -/
def CycleL (l : List St) : Prop := ∃ out, StepsL l out ∧ out.length < l.length ∧ ∀ q, q < l.length → ¬ FreeQ l out q
theorem OrderL.one {l : List St} {a b : List Int} (ha : OrderL l a) (hb : OrderL l b) : a = b := by
  have := ha.1.take hb.1 a.length (Nat.le_refl _) (by rw [ha.2, hb.2]; exact Nat.le_refl _)
  rw [List.take_length] at this
  rw [this, List.take_of_length_le (by rw [ha.2, hb.2]; exact Nat.le_refl _)]
theorem OrderL.noCycle {l : List St} {a : List Int} (ha : OrderL l a) : ¬ CycleL l := by
  rintro ⟨b, hb, hl, hs⟩
  have h1 := ha.1.take hb b.length (by rw [ha.2]; omega) (Nat.le_refl _)
  rw [List.take_length] at h1
  obtain ⟨q, _, hq, hf, _⟩ := ha.1 b.length (by rw [ha.2]; exact hl)
  rw [h1] at hf
  exact hs q hq hf
theorem StepsL.mem {l : List St} {out : List Int} (h : StepsL l out) {x : Int} (hx : x ∈ out) : ∃ q : Nat, x = (q : Int) ∧ q < l.length := by
  obtain ⟨i, hi, rfl⟩ := mem_el hx
  obtain ⟨q, h1, h2, _⟩ := h i hi
  exact ⟨q, h1, h2⟩
theorem StepsL.nodup {l : List St} {out : List Int} (h : StepsL l out) : out.Nodup := by
  rw [List.nodup_iff_pairwise_ne, List.pairwise_iff_getElem]
  intro i j hi hj hij
  obtain ⟨q, h1, _, h2, _⟩ := h j hj
  rw [el_get hj] at h1
  rw [h1]
  intro e
  refine h2.1 (e ▸ ?_)
  have : (out.take j)[i]'(by rw [List.length_take]; omega) = out[i] := List.getElem_take
  rw [← this]
  exact List.getElem_mem _
theorem pigeon : ∀ (n : Nat) (l : List Nat), l.Nodup → (∀ x ∈ l, x < n) → l.length ≤ n := by
  intro n
  induction n with
  | zero =>
    intro l _ h
    cases l with
    | nil => simp
    | cons a l => exact absurd (h a (by simp)) (Nat.not_lt_zero _)
  | succ n ih =>
    intro l hn h
    have h1 := ih (l.erase n) (hn.erase n) (fun x hx => by
      have h2 := h x (List.mem_of_mem_erase hx)
      have h3 : x ≠ n := fun e => by subst e; exact hn.not_mem_erase hx
      omega)
    rw [List.length_erase] at h1
    split at h1 <;> omega
theorem pigeon_all {n : Nat} {l : List Nat} (hn : l.Nodup) (h : ∀ x ∈ l, x < n) (hl : l.length = n) {q : Nat} (hq : q < n) : q ∈ l := by
  by_cases e : q ∈ l
  · exact e
  · have := pigeon n (q :: l) (List.nodup_cons.2 ⟨e, hn⟩) (fun x hx => by
      rcases List.mem_cons.1 hx with rfl | hx
      · exact hq
      · exact h x hx)
    simp at this
    omega
/-- In an order all states are told. -/
theorem OrderL.all {l : List St} {out : List Int} (h : OrderL l out) {q : Nat} (hq : q < l.length) : (q : Int) ∈ out := by
  have hs : ∀ x ∈ out.map Int.toNat, x < l.length := by
    intro x hx
    obtain ⟨y, hy, rfl⟩ := List.mem_map.1 hx
    obtain ⟨p, rfl, hp⟩ := h.1.mem hy
    simpa using hp
  have hn : (out.map Int.toNat).Nodup := by
    rw [List.nodup_iff_pairwise_ne, List.pairwise_map]
    have := h.1.nodup
    rw [List.nodup_iff_pairwise_ne] at this
    refine List.Pairwise.imp_of_mem ?_ this
    intro a b ha hb hab e
    obtain ⟨p, rfl, _⟩ := h.1.mem ha
    obtain ⟨p', rfl, _⟩ := h.1.mem hb
    simp at e
    exact hab (by rw [e])
  have : q ∈ out.map Int.toNat := pigeon_all hn hs (by simp [h.2]) hq
  obtain ⟨y, hy, e⟩ := List.mem_map.1 this
  obtain ⟨p, rfl, _⟩ := h.1.mem hy
  simp at e
  rw [← e]; exact hy
/-! Counting from behind. -/
def baseN (f : Int) : Nat := if f = 1000000001 then 0 else 1
def sumF (f : Nat → Nat) : List Ar → Nat
  | [] => 0
  | a :: l => f a.2.2.2.toNat + sumF f l
theorem sumF_append (f : Nat → Nat) (a b : List Ar) : sumF f (a ++ b) = sumF f a + sumF f b := by
  induction a with
  | nil => simp [sumF]
  | cons x a ih => simp [sumF, ih]; omega
theorem sumF_take (f : Nat → Nat) {ar : List Ar} {j : Nat} (h : j < ar.length) : sumF f (ar.take (j + 1)) = sumF f (ar.take j) + f (el ar j).2.2.2.toNat := by
  rw [take_el h, sumF_append]; simp [sumF]
theorem sumF_congr {f g : Nat → Nat} {ar : List Ar} (h : ∀ a ∈ ar, f a.2.2.2.toNat = g a.2.2.2.toNat) : sumF f ar = sumF g ar := by
  induction ar with
  | nil => rfl
  | cons a l ih => rw [sumF, sumF, h a (by simp), ih (fun b hb => h b (by simp [hb]))]
/-- How many paths begin at each of these, the last one first. -/
def cntF (l : List St) : List Int → Nat → Nat
  | [] => fun _ => 0
  | x :: out => fun p => if p = x.toNat then baseN (el l p).1 + sumF (cntF l out) (el l p).2 else cntF l out p
/-- So many paths begin at each state. -/
def CntEq (l : List St) (f : Nat → Nat) : Prop := ∀ q, q < l.length → f q = baseN (el l q).1 + sumF f (el l q).2
/-- At most this. -/
def capN (k : Nat) : Nat := if k ≤ 1000000001 then k else 1000000001
theorem capN_add (a b : Nat) : capN (capN a + capN b) = capN (a + b) := by
  unfold capN
  split <;> split <;> split <;> (try split) <;> omega
theorem capN_le (a : Nat) : capN a ≤ 1000000001 := by unfold capN; split <;> omega
theorem capN_gt {a : Nat} : 1000000000 < capN a ↔ 1000000000 < a := by unfold capN; split <;> omega
theorem capN_eq {a : Nat} (h : a ≤ 1000000000) : capN a = a := by unfold capN; rw [if_pos (by omega)]
/-- How far it is at most. -/
def stepD (n d : Int) : Int := if 0 ≤ d ∧ n < d + 1 then d + 1 else n
def maxF (f : Nat → Int) (n : Int) : List Ar → Int
  | [] => n
  | a :: l => maxF f (stepD n (f a.2.2.2.toNat)) l
theorem maxF_append (f : Nat → Int) (n : Int) (a b : List Ar) : maxF f n (a ++ b) = maxF f (maxF f n a) b := by
  induction a generalizing n with
  | nil => rfl
  | cons x a ih => exact ih _
theorem maxF_take (f : Nat → Int) (n : Int) {ar : List Ar} {j : Nat} (h : j < ar.length) : maxF f n (ar.take (j + 1)) = stepD (maxF f n (ar.take j)) (f (el ar j).2.2.2.toNat) := by
  rw [take_el h, maxF_append]; rfl
theorem maxF_congr {f g : Nat → Int} {ar : List Ar} (h : ∀ a ∈ ar, f a.2.2.2.toNat = g a.2.2.2.toNat) (n : Int) : maxF f n ar = maxF g n ar := by
  induction ar generalizing n with
  | nil => rfl
  | cons a l ih => rw [maxF, maxF, h a (by simp)]; exact ih (fun b hb => h b (by simp [hb])) _
def baseD (f : Int) : Int := if f = 1000000001 then -1 else 0
def farF (l : List St) : List Int → Nat → Int
  | [] => fun _ => 0
  | x :: out => fun p => if p = x.toNat then maxF (farF l out) (baseD (el l p).1) (el l p).2 else farF l out p
def FarEq (l : List St) (f : Nat → Int) : Prop := ∀ q, q < l.length → f q = maxF f (baseD (el l q).1) (el l q).2
/-- In an order each arc leads to what comes later. -/
theorem OrderL.later {l : List St} {out : List Int} (h : OrderL l out) {i q : Nat} (hi : i < out.length) (hq : el out i = (q : Int)) {a : Ar} (ha : a ∈ (el l q).2) {t : Nat} (ht : a.2.2.2 = (t : Int)) (htn : t < l.length) : (t : Int) ∈ out.drop (i + 1) := by
  have hqn : q < l.length := by
    obtain ⟨p, e, hp, _⟩ := h.1 i hi
    rw [hq] at e
    omega
  obtain ⟨j, hj, hej⟩ := mem_el (h.all htn)
  obtain ⟨t', e1, _, e2, _⟩ := h.1 j hj
  rw [hej] at e1
  obtain rfl : t = t' := by omega
  have h1 := e2.2 q hqn (List.any_eq_true.2 ⟨a, ha, by simpa using ht⟩)
  obtain ⟨k, hk, hek⟩ := mem_el h1
  rw [List.length_take] at hk
  rw [el_take (by omega)] at hek
  have hki : k = i := by
    have hnd := h.1.nodup
    have := (List.getElem_inj (h₀ := (by omega : k < out.length)) (h₁ := hi) hnd).1 (by rw [← el_get, ← el_get, hek, hq])
    exact this
  have hij : i < j := by omega
  refine List.mem_iff_getElem.2 ⟨j - (i + 1), by rw [List.length_drop]; omega, ?_⟩
  rw [List.getElem_drop, ← hej, el_get hj]
  congr 1
  omega
theorem cnt_not {l : List St} {out : List Int} {p : Nat} (h : ∀ x ∈ out, p ≠ x.toNat) : cntF l out p = 0 := by
  induction out with
  | nil => rfl
  | cons x out ih =>
    show (if p = x.toNat then _ else _) = _
    rw [if_neg (h x (by simp))]
    exact ih (fun y hy => h y (by simp [hy]))
end Go.Proofs.Ytpfcljhbamnghaa.Pl
