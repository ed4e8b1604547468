/- What comes ahead of what: the order is the only one; paths counted along it (no program in sight). What is answered of orders, paths, the longest path: it is but one (no program in sight). Machines whose arcs lead to later states alone: their order, their paths (no program in sight). Where there is no order: what a cycle leads to; where there is one: places in it (no program in sight). -/
import Derived.Test.YteaafghmkkejfaaPlainK
namespace Go.Proofs.Yteaafghmkkejfaa.Pl
theorem all_any_take {ar : List Ar} {j : Nat} (h : j < ar.length) (p : Ar → Bool) : (ar.take (j + 1)).any p = ((ar.take j).any p || p (el ar j)) := by
  rw [take_el h]; simp
/-- Does an arc lead from p to q? -/
def leadsB (l : List St) (p q : Nat) : Bool := (el l p).2.any fun a => decide (a.2.2.2 = (q : Int))
/-- q may come next: it is not told yet, and all states from which an arc leads to it are. -/
def FreeQ (l : List St) (out : List Int) (q : Nat) : Prop := (q : Int) ∉ out ∧ ∀ p, p < l.length → leadsB l p q = true → (p : Int) ∈ out
/-- The lowest one that may come next. -/
def NextQ (l : List St) (out : List Int) (x : Int) : Prop := ∃ q : Nat, x = (q : Int) ∧ q < l.length ∧ FreeQ l out q ∧ ∀ p, p < q → ¬ FreeQ l out p
theorem NextQ.one {l : List St} {out : List Int} {x y : Int} (h : NextQ l out x) (k : NextQ l out y) : x = y := by
  obtain ⟨q, rfl, hq, h1, h2⟩ := h
  obtain ⟨p, rfl, hp, k1, k2⟩ := k
  rcases Nat.lt_trichotomy q p with e | e | e
  · exact absurd h1 (k2 q e)
  · rw [e]
  · exact absurd k1 (h2 p e)
/-- Each one comes next behind those ahead of it. -/
def StepsL (l : List St) (out : List Int) : Prop := ∀ i, i < out.length → NextQ l (out.take i) (el out i)
theorem StepsL.nil (l : List St) : StepsL l [] := fun _ hi => absurd hi (Nat.not_lt_zero _)
theorem StepsL.snoc {l : List St} {out : List Int} {x : Int} (h : StepsL l out) (hx : NextQ l out x) : StepsL l (out ++ [x]) := by
  intro i hi
  by_cases e : i < out.length
  · rw [el_left e, List.take_append_of_le_length (by omega)]
    exact h i e
  · have : i = out.length := by simp at hi; omega
    subst this
    rw [el_last, List.take_left]
    exact hx
theorem StepsL.take {l : List St} {a b : List Int} (ha : StepsL l a) (hb : StepsL l b) : ∀ i, i ≤ a.length → i ≤ b.length → a.take i = b.take i := by
  intro i
  induction i with
  | zero => simp
  | succ i ih =>
    intro h1 h2
    have h3 := ih (by omega) (by omega)
    have h4 := ha i (by omega)
    have h5 := hb i (by omega)
    rw [← h3] at h5
    rw [take_el (by omega), take_el (by omega), h3, h4.one h5]
/-- There is an order, and it is this one. -/
def OrderL (l : List St) (out : List Int) : Prop := StepsL l out ∧ out.length = l.length
/-- There is none. -/
def CycleL (l : List St) : Prop := ∃ out, StepsL l out ∧ out.length < l.length ∧ ∀ q, q < l.length → ¬ FreeQ l out q
theorem OrderL.one {l : List St} {a b : List Int} (ha : OrderL l a) (hb : OrderL l b) : a = b := by
  have := ha.1.take hb.1 a.length (Nat.le_refl _) (by rw [ha.2, hb.2]; exact Nat.le_refl _)
  rw [List.take_length] at this
  rw [this, List.take_of_length_le (by rw [ha.2, hb.2]; exact Nat.le_refl _)]
theorem OrderL.noCycle {l : List St} {a : List Int} (ha : OrderL l a) : ¬ CycleL l := by
  rintro ⟨b, hb, hl, hs⟩
  have h1 := ha.1.take hb b.length (by rw [ha.2]; omega) (Nat.le_refl _)
  rw [List.take_length] at h1
  obtain ⟨q, _, hq, hf, _⟩ := ha.1 b.length (by rw [ha.2]; exact hl)
  rw [h1] at hf
  exact hs q hq hf
theorem StepsL.mem {l : List St} {out : List Int} (h : StepsL l out) {x : Int} (hx : x ∈ out) : ∃ q : Nat, x = (q : Int) ∧ q < l.length := by
  obtain ⟨i, hi, rfl⟩ := mem_el hx
  obtain ⟨q, h1, h2, _⟩ := h i hi
  exact ⟨q, h1, h2⟩
theorem StepsL.nodup {l : List St} {out : List Int} (h : StepsL l out) : out.Nodup := by
  rw [List.nodup_iff_pairwise_ne, List.pairwise_iff_getElem]
  intro i j hi hj hij
  obtain ⟨q, h1, _, h2, _⟩ := h j hj
  rw [el_get hj] at h1
  rw [h1]
  intro e
  refine h2.1 (e ▸ ?_)
  have : (out.take j)[i]'(by rw [List.length_take]; omega) = out[i] := List.getElem_take
  rw [← this]
  exact List.getElem_mem _
theorem pigeon : ∀ (n : Nat) (l : List Nat), l.Nodup → (∀ x ∈ l, x < n) → l.length ≤ n := by
  intro n
  induction n with
  | zero =>
    intro l _ h
    cases l with
    | nil => simp
    | cons a l => exact absurd (h a (by simp)) (Nat.not_lt_zero _)
  | succ n ih =>
    intro l hn h
    have h1 := ih (l.erase n) (hn.erase n) (fun x hx => by
      have h2 := h x (List.mem_of_mem_erase hx)
      have h3 : x ≠ n := fun e => by subst e; exact hn.not_mem_erase hx
      omega)
    rw [List.length_erase] at h1
    split at h1 <;> omega
theorem pigeon_all {n : Nat} {l : List Nat} (hn : l.Nodup) (h : ∀ x ∈ l, x < n) (hl : l.length = n) {q : Nat} (hq : q < n) : q ∈ l := by
  by_cases e : q ∈ l
  · exact e
  · have := pigeon n (q :: l) (List.nodup_cons.2 ⟨e, hn⟩) (fun x hx => by
      rcases List.mem_cons.1 hx with rfl | hx
      · exact hq
      · exact h x hx)
    simp at this
    omega
/-- In an order all states are told. -/
theorem OrderL.all {l : List St} {out : List Int} (h : OrderL l out) {q : Nat} (hq : q < l.length) : (q : Int) ∈ out := by
  have hs : ∀ x ∈ out.map Int.toNat, x < l.length := by
    intro x hx
    obtain ⟨y, hy, rfl⟩ := List.mem_map.1 hx
    obtain ⟨p, rfl, hp⟩ := h.1.mem hy
    simpa using hp
  have hn : (out.map Int.toNat).Nodup := by
    rw [List.nodup_iff_pairwise_ne, List.pairwise_map]
    have := h.1.nodup
    rw [List.nodup_iff_pairwise_ne] at this
    refine List.Pairwise.imp_of_mem ?_ this
    intro a b ha hb hab e
    obtain ⟨p, rfl, _⟩ := h.1.mem ha
    obtain ⟨p', rfl, _⟩ := h.1.mem hb
    simp at e
    exact hab (by rw [e])
  have : q ∈ out.map Int.toNat := pigeon_all hn hs (by simp [h.2]) hq
  obtain ⟨y, hy, e⟩ := List.mem_map.1 this
  obtain ⟨p, rfl, _⟩ := h.1.mem hy
  simp at e
  rw [← e]; exact hy
/-! Counting from behind. -/
def baseN (f : Int) : Nat := if f = 1000000001 then 0 else 1
def sumF (f : Nat → Nat) : List Ar → Nat
  | [] => 0
  | a :: l => f a.2.2.2.toNat + sumF f l
theorem sumF_append (f : Nat → Nat) (a b : List Ar) : sumF f (a ++ b) = sumF f a + sumF f b := by
  induction a with
  | nil => simp [sumF]
  | cons x a ih => simp [sumF, ih]; omega
theorem sumF_take (f : Nat → Nat) {ar : List Ar} {j : Nat} (h : j < ar.length) : sumF f (ar.take (j + 1)) = sumF f (ar.take j) + f (el ar j).2.2.2.toNat := by
  rw [take_el h, sumF_append]; simp [sumF]
theorem sumF_congr {f g : Nat → Nat} {ar : List Ar} (h : ∀ a ∈ ar, f a.2.2.2.toNat = g a.2.2.2.toNat) : sumF f ar = sumF g ar := by
  induction ar with
  | nil => rfl
  | cons a l ih => rw [sumF, sumF, h a (by simp), ih (fun b hb => h b (by simp [hb]))]
/-- How many paths begin at each of these, the last one first. -/
def cntF (l : List St) : List Int → Nat → Nat
  | [] => fun _ => 0
  | x :: out => fun p => if p = x.toNat then baseN (el l p).1 + sumF (cntF l out) (el l p).2 else cntF l out p
/-- So many paths begin at each state. -/
def CntEq (l : List St) (f : Nat → Nat) : Prop := ∀ q, q < l.length → f q = baseN (el l q).1 + sumF f (el l q).2
/-- At most this. -/
def capN (k : Nat) : Nat := if k ≤ 1000000001 then k else 1000000001
theorem capN_add (a b : Nat) : capN (capN a + capN b) = capN (a + b) := by
  unfold capN
  split <;> split <;> split <;> (try split) <;> omega
theorem capN_le (a : Nat) : capN a ≤ 1000000001 := by unfold capN; split <;> omega
theorem capN_gt {a : Nat} : 1000000000 < capN a ↔ 1000000000 < a := by unfold capN; split <;> omega
theorem capN_eq {a : Nat} (h : a ≤ 1000000000) : capN a = a := by unfold capN; rw [if_pos (by omega)]
/-- How far it is at most. -/
def stepD (n d : Int) : Int := if 0 ≤ d ∧ n < d + 1 then d + 1 else n
def maxF (f : Nat → Int) (n : Int) : List Ar → Int
  | [] => n
  | a :: l => maxF f (stepD n (f a.2.2.2.toNat)) l
theorem maxF_append (f : Nat → Int) (n : Int) (a b : List Ar) : maxF f n (a ++ b) = maxF f (maxF f n a) b := by
  induction a generalizing n with
  | nil => rfl
  | cons x a ih => exact ih _
theorem maxF_take (f : Nat → Int) (n : Int) {ar : List Ar} {j : Nat} (h : j < ar.length) : maxF f n (ar.take (j + 1)) = stepD (maxF f n (ar.take j)) (f (el ar j).2.2.2.toNat) := by
  rw [take_el h, maxF_append]; rfl
theorem maxF_congr {f g : Nat → Int} {ar : List Ar} (h : ∀ a ∈ ar, f a.2.2.2.toNat = g a.2.2.2.toNat) (n : Int) : maxF f n ar = maxF g n ar := by
  induction ar generalizing n with
  | nil => rfl
  | cons a l ih => rw [maxF, maxF, h a (by simp)]; exact ih (fun b hb => h b (by simp [hb])) _
def baseD (f : Int) : Int := if f = 1000000001 then -1 else 0
def farF (l : List St) : List Int → Nat → Int
  | [] => fun _ => 0
  | x :: out => fun p => if p = x.toNat then maxF (farF l out) (baseD (el l p).1) (el l p).2 else farF l out p
def FarEq (l : List St) (f : Nat → Int) : Prop := ∀ q, q < l.length → f q = maxF f (baseD (el l q).1) (el l q).2
/-- In an order each arc leads to what comes later. -/
theorem OrderL.later {l : List St} {out : List Int} (h : OrderL l out) {i q : Nat} (hi : i < out.length) (hq : el out i = (q : Int)) {a : Ar} (ha : a ∈ (el l q).2) {t : Nat} (ht : a.2.2.2 = (t : Int)) (htn : t < l.length) : (t : Int) ∈ out.drop (i + 1) := by
  have hqn : q < l.length := by
    obtain ⟨p, e, hp, _⟩ := h.1 i hi
    rw [hq] at e
    omega
  obtain ⟨j, hj, hej⟩ := mem_el (h.all htn)
  obtain ⟨t', e1, _, e2, _⟩ := h.1 j hj
  rw [hej] at e1
  obtain rfl : t = t' := by omega
  have h1 := e2.2 q hqn (List.any_eq_true.2 ⟨a, ha, by simpa using ht⟩)
  obtain ⟨k, hk, hek⟩ := mem_el h1
  rw [List.length_take] at hk
  rw [el_take (by omega)] at hek
  have hki : k = i := by
    have hnd := h.1.nodup
    have := (List.getElem_inj (h₀ := (by omega : k < out.length)) (h₁ := hi) hnd).1 (by rw [← el_get, ← el_get, hek, hq])
    exact this
  have hij : i < j := by omega
  refine List.mem_iff_getElem.2 ⟨j - (i + 1), by rw [List.length_drop]; omega, ?_⟩
  rw [List.getElem_drop, ← hej, el_get hj]
  congr 1
  omega
theorem cnt_not {l : List St} {out : List Int} {p : Nat} (h : ∀ x ∈ out, p ≠ x.toNat) : cntF l out p = 0 := by
  induction out with
  | nil => rfl
  | cons x out ih =>
    show (if p = x.toNat then _ else _) = _
    rw [if_neg (h x (by simp))]
    exact ih (fun y hy => h y (by simp [hy]))
end Go.Proofs.Yteaafghmkkejfaa.Pl
namespace Go.Proofs.Yteaafghmkkejfaa.Pl
/-- What is answered: the number, the error. -/
def pathA (z : Int) (c : Nat) : Int × Int := if z < 0 then (0, 0) else if 1000000000 < c then (0, 4) else ((c : Int), 0)
def farA (z d : Int) : Int × Int := if z < 0 ∨ d < 0 then (0, 12) else (d, 0)
def OrdAns (m : Mc) (r ec : Int) (out : List Int) : Prop := if r = 0 then ((ec = 0 ∧ OrderL m.2 out) ∨ (ec = 6 ∧ CycleL m.2 ∧ out = [])) else ec = r ∧ out = []
def PathAns (m : Mc) (r x ec : Int) : Prop := if r = 0 then ((∃ out, OrderL m.2 out ∧ pathA m.1 (cntF m.2 out m.1.toNat) = (x, ec)) ∨ (CycleL m.2 ∧ x = 0 ∧ ec = 6)) else x = 0 ∧ ec = r
def FarAns (m : Mc) (r x ec : Int) : Prop := if r = 0 then ((∃ out, OrderL m.2 out ∧ farA m.1 (farF m.2 out m.1.toNat) = (x, ec)) ∨ (CycleL m.2 ∧ x = 0 ∧ ec = 6)) else x = 0 ∧ ec = r
theorem OrdAns.one {m : Mc} {r e1 e2 : Int} {o1 o2 : List Int} (h : OrdAns m r e1 o1) (k : OrdAns m r e2 o2) : e1 = e2 ∧ o1 = o2 := by
  unfold OrdAns at h k
  split at h
  · rename_i h0
    rw [if_pos h0] at k
    rcases h with ⟨rfl, h1⟩ | ⟨rfl, h1, rfl⟩
    · rcases k with ⟨rfl, k1⟩ | ⟨rfl, k1, rfl⟩
      · exact ⟨rfl, h1.one k1⟩
      · exact absurd k1 h1.noCycle
    · rcases k with ⟨rfl, k1⟩ | ⟨rfl, k1, rfl⟩
      · exact absurd h1 k1.noCycle
      · exact ⟨rfl, rfl⟩
  · rename_i h0
    rw [if_neg h0] at k
    exact ⟨h.1.trans k.1.symm, h.2.trans k.2.symm⟩
theorem OrdAns.len {m : Mc} {r e : Int} {o : List Int} (h : OrdAns m r e o) : o.length ≤ m.2.length := by
  unfold OrdAns at h
  split at h
  · rcases h with ⟨_, h1⟩ | ⟨_, _, rfl⟩
    · rw [h1.2]; exact Nat.le_refl _
    · simp
  · rw [h.2]; simp
theorem PathAns.one {m : Mc} {r x1 e1 x2 e2 : Int} (h : PathAns m r x1 e1) (k : PathAns m r x2 e2) : x1 = x2 ∧ e1 = e2 := by
  unfold PathAns at h k
  split at h
  · rename_i h0
    rw [if_pos h0] at k
    rcases h with ⟨o1, h1, h2⟩ | ⟨h1, rfl, rfl⟩
    · rcases k with ⟨o2, k1, k2⟩ | ⟨k1, rfl, rfl⟩
      · rw [h1.one k1, k2] at h2
        simp only [Prod.mk.injEq] at h2
        exact ⟨h2.1.symm, h2.2.symm⟩
      · exact absurd k1 h1.noCycle
    · rcases k with ⟨o2, k1, k2⟩ | ⟨k1, rfl, rfl⟩
      · exact absurd h1 k1.noCycle
      · exact ⟨rfl, rfl⟩
  · rename_i h0
    rw [if_neg h0] at k
    exact ⟨h.1.trans k.1.symm, h.2.trans k.2.symm⟩
theorem FarAns.one {m : Mc} {r x1 e1 x2 e2 : Int} (h : FarAns m r x1 e1) (k : FarAns m r x2 e2) : x1 = x2 ∧ e1 = e2 := by
  unfold FarAns at h k
  split at h
  · rename_i h0
    rw [if_pos h0] at k
    rcases h with ⟨o1, h1, h2⟩ | ⟨h1, rfl, rfl⟩
    · rcases k with ⟨o2, k1, k2⟩ | ⟨k1, rfl, rfl⟩
      · rw [h1.one k1, k2] at h2
        simp only [Prod.mk.injEq] at h2
        exact ⟨h2.1.symm, h2.2.symm⟩
      · exact absurd k1 h1.noCycle
    · rcases k with ⟨o2, k1, k2⟩ | ⟨k1, rfl, rfl⟩
      · exact absurd h1 k1.noCycle
      · exact ⟨rfl, rfl⟩
  · rename_i h0
    rw [if_neg h0] at k
    exact ⟨h.1.trans k.1.symm, h.2.trans k.2.symm⟩
/-! Along an order the equations hold, and they have but one solution. -/
theorem cnt_mem_not {l : List St} {a b : List Int} {p : Nat} (h : ∀ x ∈ a, p ≠ x.toNat) : cntF l (a ++ b) p = cntF l b p := by
  induction a with
  | nil => rfl
  | cons x a ih =>
    show (if p = x.toNat then _ else _) = _
    rw [if_neg (h x (by simp))]
    exact ih (fun y hy => h y (by simp [hy]))
theorem far_mem_not {l : List St} {a b : List Int} {p : Nat} (h : ∀ x ∈ a, p ≠ x.toNat) : farF l (a ++ b) p = farF l b p := by
  induction a with
  | nil => rfl
  | cons x a ih =>
    show (if p = x.toNat then _ else _) = _
    rw [if_neg (h x (by simp))]
    exact ih (fun y hy => h y (by simp [hy]))
theorem OrderL.ahead {l : List St} {out : List Int} (h : OrderL l out) {i : Nat} {t : Nat} (ht : (t : Int) ∈ out.drop i) : ∀ x ∈ out.take i, t ≠ x.toNat := by
  intro x hx e
  obtain ⟨q, rfl, _⟩ := h.1.mem (List.mem_of_mem_take hx)
  have hnd := h.1.nodup
  rw [← List.take_append_drop i out, List.nodup_append] at hnd
  simp at e
  subst e
  exact hnd.2.2 _ hx _ ht rfl
theorem OrderL.cnt {l : List St} {out : List Int} (h : OrderL l out) (hto : ∀ q, q < l.length → ∀ a ∈ (el l q).2, ∃ t : Nat, a.2.2.2 = (t : Int) ∧ t < l.length) : CntEq l (cntF l out) := by
  intro q hq
  obtain ⟨i, hi, he⟩ := mem_el (h.all hq)
  have hd : out.drop i = (q : Int) :: out.drop (i + 1) := by rw [List.drop_eq_getElem_cons hi, ← el_get hi, he]
  have h1 : cntF l out q = cntF l (out.drop i) q := by
    conv => lhs; rw [← List.take_append_drop i out]
    exact cnt_mem_not (h.ahead (i := i) (by rw [hd]; simp))
  rw [h1, hd]
  show (if q = ((q : Int)).toNat then _ else _) = _
  rw [if_pos (by simp)]
  congr 1
  refine sumF_congr fun a ha => ?_
  obtain ⟨t, ht, htn⟩ := hto q hq a ha
  have h2 := h.later hi he ha ht htn
  rw [ht, Int.toNat_natCast]
  conv => rhs; rw [← List.take_append_drop (i + 1) out]
  exact (cnt_mem_not (h.ahead h2)).symm
theorem OrderL.far {l : List St} {out : List Int} (h : OrderL l out) (hto : ∀ q, q < l.length → ∀ a ∈ (el l q).2, ∃ t : Nat, a.2.2.2 = (t : Int) ∧ t < l.length) : FarEq l (farF l out) := by
  intro q hq
  obtain ⟨i, hi, he⟩ := mem_el (h.all hq)
  have hd : out.drop i = (q : Int) :: out.drop (i + 1) := by rw [List.drop_eq_getElem_cons hi, ← el_get hi, he]
  have h1 : farF l out q = farF l (out.drop i) q := by
    conv => lhs; rw [← List.take_append_drop i out]
    exact far_mem_not (h.ahead (i := i) (by rw [hd]; simp))
  rw [h1, hd]
  show (if q = ((q : Int)).toNat then _ else _) = _
  rw [if_pos (by simp)]
  refine maxF_congr (fun a ha => ?_) _
  obtain ⟨t, ht, htn⟩ := hto q hq a ha
  have h2 := h.later hi he ha ht htn
  rw [ht, Int.toNat_natCast]
  conv => rhs; rw [← List.take_append_drop (i + 1) out]
  exact (far_mem_not (h.ahead h2)).symm
/-- From behind along an order. -/
theorem OrderL.ind {l : List St} {out : List Int} (h : OrderL l out) (hto : ∀ q, q < l.length → ∀ a ∈ (el l q).2, ∃ t : Nat, a.2.2.2 = (t : Int) ∧ t < l.length) {P : Nat → Prop} (step : ∀ q, q < l.length → (∀ a ∈ (el l q).2, P a.2.2.2.toNat) → P q) : ∀ q, q < l.length → P q := by
  have key : ∀ k i, i < out.length → out.length - i ≤ k → P (el out i).toNat := by
    intro k
    induction k with
    | zero => intro i hi hk; omega
    | succ k ih =>
      intro i hi hk
      obtain ⟨q, he, hq, _⟩ := h.1 i hi
      rw [he, Int.toNat_natCast]
      refine step q hq fun a ha => ?_
      obtain ⟨t, ht, htn⟩ := hto q hq a ha
      have h2 := h.later hi he ha ht htn
      obtain ⟨j, hj, hej⟩ := List.mem_iff_getElem.1 h2
      rw [List.length_drop] at hj
      rw [List.getElem_drop] at hej
      have h3 := ih (i + 1 + j) (by omega) (by omega)
      rw [el_get (by omega), hej] at h3
      rw [ht]; exact h3
  intro q hq
  obtain ⟨i, hi, he⟩ := mem_el (h.all hq)
  have := key out.length i hi (by omega)
  rw [he, Int.toNat_natCast] at this
  exact this
theorem cnt_one {l : List St} {out : List Int} (h : OrderL l out) (hto : ∀ q, q < l.length → ∀ a ∈ (el l q).2, ∃ t : Nat, a.2.2.2 = (t : Int) ∧ t < l.length) {f g : Nat → Nat} (hf : CntEq l f) (hg : CntEq l g) : ∀ q, q < l.length → f q = g q :=
  h.ind hto fun q hq ih => by rw [hf q hq, hg q hq, sumF_congr ih]
theorem far_one {l : List St} {out : List Int} (h : OrderL l out) (hto : ∀ q, q < l.length → ∀ a ∈ (el l q).2, ∃ t : Nat, a.2.2.2 = (t : Int) ∧ t < l.length) {f g : Nat → Int} (hf : FarEq l f) (hg : FarEq l g) : ∀ q, q < l.length → f q = g q :=
  h.ind hto fun q hq ih => by rw [hf q hq, hg q hq, maxF_congr ih]
end Go.Proofs.Yteaafghmkkejfaa.Pl
namespace Go.Proofs.Yteaafghmkkejfaa.Pl
/-- Each arc leads to a later state. -/
def Fwd (l : List St) : Prop := ∀ q, q < l.length → ∀ a ∈ (el l q).2, ∃ t : Nat, a.2.2.2 = (t : Int) ∧ q < t ∧ t < l.length
theorem Fwd.to {l : List St} (h : Fwd l) : ∀ q, q < l.length → ∀ a ∈ (el l q).2, ∃ t : Nat, a.2.2.2 = (t : Int) ∧ t < l.length := fun q hq a ha => by
  obtain ⟨t, h1, _, h2⟩ := h q hq a ha
  exact ⟨t, h1, h2⟩
def numsL (n : Nat) : List Int := (List.range n).map fun q : Nat => (q : Int)
theorem numsL_length (n : Nat) : (numsL n).length = n := by simp [numsL]
theorem numsL_el {n q : Nat} (h : q < n) : el (numsL n) q = (q : Int) := el_range_map _ h
theorem numsL_mem {n q : Nat} : (q : Int) ∈ numsL n ↔ q < n := by
  unfold numsL
  rw [List.mem_map]
  constructor
  · rintro ⟨p, hp, e⟩
    have := List.mem_range.1 hp
    omega
  · intro h; exact ⟨q, List.mem_range.2 h, rfl⟩
theorem numsL_take {n i : Nat} (h : i ≤ n) : (numsL n).take i = numsL i := by
  apply el_ext (by rw [List.length_take, numsL_length, numsL_length]; omega)
  intro j hj
  rw [List.length_take, numsL_length] at hj
  rw [el_take (by omega), numsL_el (by omega), numsL_el (by omega)]
theorem Fwd.order {l : List St} (h : Fwd l) : OrderL l (numsL l.length) := by
  refine ⟨fun i hi => ?_, numsL_length _⟩
  rw [numsL_length] at hi
  rw [numsL_el hi, numsL_take (by omega)]
  refine ⟨i, rfl, hi, ⟨fun h9 => absurd (numsL_mem.1 h9) (Nat.lt_irrefl _), fun p hp hl => ?_⟩, fun p hp hf => hf.1 (numsL_mem.2 hp)⟩
  obtain ⟨a, ha, he⟩ := List.any_eq_true.1 hl
  obtain ⟨t, h1, h2, _⟩ := h p hp a ha
  simp only [decide_eq_true_eq] at he
  exact numsL_mem.2 (by omega)
theorem sumF_le {f : Nat → Nat} {k : Nat} {ar : List Ar} (h : ∀ a ∈ ar, f a.2.2.2.toNat ≤ k) : sumF f ar ≤ ar.length * k := by
  induction ar with
  | nil => simp [sumF]
  | cons a l ih =>
    have h1 := h a (by simp)
    have h2 := ih (fun b hb => h b (by simp [hb]))
    simp only [sumF, List.length_cons, Nat.add_mul, Nat.one_mul]
    omega
theorem sumF_zero {f : Nat → Nat} {ar : List Ar} : sumF f ar = 0 ↔ ∀ a ∈ ar, f a.2.2.2.toNat = 0 := by
  induction ar with
  | nil => simp [sumF]
  | cons a l ih => simp [sumF, ih]
theorem cnt_bound {l : List St} {f : Nat → Nat} (h : Fwd l) (hf : CntEq l f) (h4 : ∀ q, q < l.length → (el l q).2.length ≤ 4) : ∀ k q, q < l.length → l.length - q ≤ k → f q ≤ 5 ^ k := by
  intro k
  induction k with
  | zero => intro q hq hk; omega
  | succ k ih =>
    intro q hq hk
    rw [hf q hq]
    have h1 : sumF f (el l q).2 ≤ (el l q).2.length * 5 ^ k := sumF_le (fun a ha => by
      obtain ⟨t, e, h2, h3⟩ := h q hq a ha
      rw [e, Int.toNat_natCast]
      exact ih t h3 (by omega))
    have h2 : (el l q).2.length * 5 ^ k ≤ 4 * 5 ^ k := Nat.mul_le_mul_right _ (h4 q hq)
    have h3 : 0 < 5 ^ k := Nat.pow_pos (by omega)
    have h5 : baseN (el l q).1 ≤ 1 := by unfold baseN; split <;> omega
    rw [Nat.pow_succ]
    omega
theorem maxF_neg {f : Nat → Int} {ar : List Ar} {n : Int} : maxF f n ar < 0 ↔ n < 0 ∧ ∀ a ∈ ar, f a.2.2.2.toNat < 0 := by
  induction ar generalizing n with
  | nil => simp [maxF]
  | cons a l ih =>
    rw [maxF, ih]
    simp only [List.mem_cons, forall_eq_or_imp]
    unfold stepD
    constructor
    · rintro ⟨h1, h2⟩
      split at h1
      · rename_i h; omega
      · rename_i h
        refine ⟨h1, ?_, h2⟩
        by_cases e : f a.2.2.2.toNat < 0
        · exact e
        · exact absurd ⟨by omega, by omega⟩ h
    · rintro ⟨h1, h2, h3⟩
      rw [if_neg (fun h => by omega)]
      exact ⟨h1, h3⟩
theorem maxF_ge {f : Nat → Int} {ar : List Ar} {n : Int} : n ≤ maxF f n ar := by
  induction ar generalizing n with
  | nil => exact Int.le_refl _
  | cons a l ih =>
    rw [maxF]
    refine Int.le_trans ?_ ih
    unfold stepD
    split <;> omega
theorem maxF_zero {f : Nat → Int} {ar : List Ar} {n : Int} (hn : -1 ≤ n) (h : maxF f n ar = 0) : n = 0 ∧ ∀ a ∈ ar, f a.2.2.2.toNat < 0 := by
  induction ar generalizing n with
  | nil => exact ⟨h, by simp⟩
  | cons a l ih =>
    rw [maxF] at h
    by_cases e : f a.2.2.2.toNat < 0
    · have hs : stepD n (f a.2.2.2.toNat) = n := by unfold stepD; rw [if_neg (fun h9 => by omega)]
      rw [hs] at h
      obtain ⟨h1, h2⟩ := ih hn h
      exact ⟨h1, fun b hb => by rcases List.mem_cons.1 hb with rfl | hb; exact e; exact h2 b hb⟩
    · have hs : 1 ≤ stepD n (f a.2.2.2.toNat) := by unfold stepD; split <;> omega
      have := maxF_ge (f := f) (ar := l) (n := stepD n (f a.2.2.2.toNat))
      omega
theorem maxF_le {f : Nat → Int} {k : Int} {ar : List Ar} {n : Int} (hn : n ≤ k) (h : ∀ a ∈ ar, f a.2.2.2.toNat + 1 ≤ k) : maxF f n ar ≤ k := by
  induction ar generalizing n with
  | nil => exact hn
  | cons a l ih =>
    rw [maxF]
    refine ih ?_ (fun b hb => h b (by simp [hb]))
    have := h a (by simp)
    unfold stepD
    split <;> omega
theorem far_cnt {l : List St} {out : List Int} (ho : OrderL l out) (hto : ∀ q, q < l.length → ∀ a ∈ (el l q).2, ∃ t : Nat, a.2.2.2 = (t : Int) ∧ t < l.length) {c : Nat → Nat} {d : Nat → Int} (hc : CntEq l c) (hd : FarEq l d) : ∀ q, q < l.length → (d q < 0 ↔ c q = 0) := by
  refine ho.ind hto fun q hq ih => ?_
  rw [hd q hq, hc q hq, maxF_neg, Nat.add_eq_zero_iff, sumF_zero]
  have hb : baseD (el l q).1 < 0 ↔ baseN (el l q).1 = 0 := by unfold baseD baseN; split <;> simp
  rw [hb]
  constructor
  · rintro ⟨h1, h2⟩; exact ⟨h1, fun a ha => (ih a ha).1 (h2 a ha)⟩
  · rintro ⟨h1, h2⟩; exact ⟨h1, fun a ha => (ih a ha).2 (h2 a ha)⟩
theorem far_zero {l : List St} {out : List Int} (ho : OrderL l out) (hto : ∀ q, q < l.length → ∀ a ∈ (el l q).2, ∃ t : Nat, a.2.2.2 = (t : Int) ∧ t < l.length) {c : Nat → Nat} {d : Nat → Int} (hc : CntEq l c) (hd : FarEq l d) {q : Nat} (hq : q < l.length) (h : d q = 0) : c q = 1 := by
  rw [hd q hq] at h
  have hb : -1 ≤ baseD (el l q).1 := by unfold baseD; split <;> omega
  obtain ⟨h1, h2⟩ := maxF_zero hb h
  have h3 : sumF c (el l q).2 = 0 := sumF_zero.2 (fun a ha => by
    obtain ⟨t, e, ht⟩ := hto q hq a ha
    have := h2 a ha
    rw [e, Int.toNat_natCast] at this ⊢
    exact (far_cnt ho hto hc hd t ht).1 this)
  rw [hc q hq, h3]
  unfold baseD at h1
  unfold baseN
  split at h1 <;> simp_all
theorem Fwd.far {l : List St} (h : Fwd l) {d : Nat → Int} (hd : FarEq l d) : ∀ q, q < l.length → d q ≤ (l.length : Int) - 1 - (q : Int) := by
  refine h.order.ind h.to fun q hq ih => ?_
  rw [hd q hq]
  refine maxF_le (by unfold baseD; split <;> omega) fun a ha => ?_
  obtain ⟨t, e, h1, h2⟩ := h q hq a ha
  have := ih a ha
  rw [e, Int.toNat_natCast] at this
  rw [e, Int.toNat_natCast]
  omega
end Go.Proofs.Yteaafghmkkejfaa.Pl
namespace Go.Proofs.Yteaafghmkkejfaa.Pl
/-- Does an arc lead to q from one of the first states of the list that is left? -/
def ledB (l : List St) (bs : List Bool) (p q : Nat) : Bool := (List.range p).any fun x => el bs x && leadsB l x q
theorem ledB_succ (l : List St) (bs : List Bool) (p q : Nat) : ledB l bs (p + 1) q = (ledB l bs p q || (el bs p && leadsB l p q)) := by
  unfold ledB
  rw [List.range_succ, List.any_append]; simp
theorem sub_len : ∀ (a b : List Int), a.Nodup → (∀ x ∈ a, x ∈ b) → a.length ≤ b.length := by
  intro a
  induction a with
  | nil => intro b _ _; simp
  | cons x a ih =>
    intro b hn h
    have h1 := h x (by simp)
    have h2 := ih (b.erase x) (List.nodup_cons.1 hn).2 (fun y hy => by
      have hne : y ≠ x := fun e => by subst e; exact (List.nodup_cons.1 hn).1 hy
      exact (List.mem_erase_of_ne hne).2 (h y (by simp [hy])))
    rw [List.length_erase_of_mem h1] at h2
    have h3 : 0 < b.length := List.length_pos_of_mem h1
    simp only [List.length_cons]
    omega
/-- What is left has all that can't be told. -/
def Sup (n : Nat) (out : List Int) (bs : List Bool) : Prop := bs.length = n ∧ ∀ q, q < n → (q : Int) ∉ out → el bs q = true
theorem stuck_some {l : List St} {out : List Int} (hl : out.length < l.length) : ∃ q, q < l.length ∧ (q : Int) ∉ out := by
  by_cases h : ∃ q, q < l.length ∧ (q : Int) ∉ out
  · exact h
  · exfalso
    have h1 := sub_len (numsL l.length) out (by
      unfold numsL
      rw [List.nodup_iff_pairwise_ne, List.pairwise_map]
      refine (List.pairwise_lt_range (n := l.length)).imp ?_
      intro a b hab; omega) (fun x hx => by
      unfold numsL at hx
      obtain ⟨q, hq, rfl⟩ := List.mem_map.1 hx
      by_cases e : (q : Int) ∈ out
      · exact e
      · exact absurd ⟨q, List.mem_range.1 hq, e⟩ h)
    rw [numsL_length] at h1
    omega
theorem stuck_led {l : List St} {out : List Int} (hf : ∀ q, q < l.length → ¬ FreeQ l out q) {bs : List Bool} (hb : Sup l.length out bs) {q : Nat} (hq : q < l.length) (hn : (q : Int) ∉ out) : ledB l bs l.length q = true := by
  have h1 := hf q hq
  by_cases h : ∃ p, p < l.length ∧ leadsB l p q = true ∧ (p : Int) ∉ out
  · obtain ⟨p, hp, h2, h3⟩ := h
    unfold ledB
    exact List.any_eq_true.2 ⟨p, List.mem_range.2 hp, by rw [hb.2 p hp h3, h2]; rfl⟩
  · exfalso
    refine h1 ⟨hn, fun p hp h2 => ?_⟩
    by_cases e : (p : Int) ∈ out
    · exact e
    · exact absurd ⟨p, hp, h2, e⟩ h
theorem el_setAny {l : List Bool} {q j : Nat} (hq : q < l.length) (b : Bool) : el (l.set q b) j = if j = q then b else el l j := by
  by_cases h : j = q
  · subst h; rw [if_pos rfl, el_get (by simpa using hq)]; simp
  · rw [if_neg h]; simp [el, List.getElem?_set_ne (Ne.symm h)]
theorem Sup.set {l : List St} {out : List Int} (hf : ∀ q, q < l.length → ¬ FreeQ l out q) {bs : List Bool} (hb : Sup l.length out bs) {q : Nat} (hq : q < l.length) : Sup l.length out (bs.set q (el bs q && ledB l bs l.length q)) := by
  refine ⟨by simpa using hb.1, fun p hp hn => ?_⟩
  rw [el_setAny (by rw [hb.1]; exact hq)]
  split
  · rename_i e
    subst e
    rw [hb.2 p hp hn, stuck_led hf hb hp hn]; rfl
  · exact hb.2 p hp hn
theorem Sup.some {l : List St} {out : List Int} (hl : out.length < l.length) {bs : List Bool} (hb : Sup l.length out bs) : (List.range l.length).any (fun q => el bs q) = true := by
  obtain ⟨q, hq, hn⟩ := stuck_some hl
  exact List.any_eq_true.2 ⟨q, List.mem_range.2 hq, hb.2 q hq hn⟩
/-- The places of the first i of an order, plus 1. -/
def AtI (n : Nat) (out : List Int) (i : Nat) (ps : List Int) : Prop := ps.length = n ∧ (∀ j, j < i → el ps (el out j).toNat = (j : Int) + 1) ∧ ∀ q, q < n → (q : Int) ∉ out.take i → el ps q = 0
theorem AtI.start (n : Nat) (out : List Int) : AtI n out 0 (List.replicate n 0) := ⟨by simp, fun j hj => absurd hj (Nat.not_lt_zero _), fun q hq _ => by simp [el, hq]⟩
theorem el_setI {l : List Int} {q j : Nat} (hq : q < l.length) (x : Int) : el (l.set q x) j = if j = q then x else el l j := by
  by_cases h : j = q
  · subst h; rw [if_pos rfl, el_get (by simpa using hq)]; simp
  · rw [if_neg h]; simp [el, List.getElem?_set_ne (Ne.symm h)]
theorem AtI.next {l : List St} {out : List Int} (ho : OrderL l out) {i : Nat} (hi : i < l.length) {ps : List Int} (h : AtI l.length out i ps) {q : Nat} (hq : el out i = (q : Int)) (hqn : q < l.length) : el ps q = 0 ∧ AtI l.length out (i + 1) (ps.set q ((i : Int) + 1)) := by
  have hio : i < out.length := by rw [ho.2]; exact hi
  have hno : (q : Int) ∉ out.take i := by
    obtain ⟨q', e, _, hf, _⟩ := ho.1 i hio
    rw [hq] at e
    rw [e]; exact hf.1
  refine ⟨h.2.2 q hqn hno, by simpa using h.1, fun j hj => ?_, fun p hp hn => ?_⟩
  · by_cases e : j = i
    · subst e
      rw [hq, Int.toNat_natCast, el_setI (by rw [h.1]; exact hqn), if_pos rfl]
    · obtain ⟨p, e2, hp, _⟩ := ho.1 j (by omega)
      rw [e2, Int.toNat_natCast, el_setI (by rw [h.1]; exact hqn), if_neg]
      · have := h.2.1 j (by omega)
        rw [e2, Int.toNat_natCast] at this
        exact this
      · intro e3
        refine hno ?_
        rw [← e3, ← e2]
        have : el (out.take i) j = el out j := el_take (by omega)
        rw [← this]
        exact el_mem (by rw [List.length_take]; omega)
  · rw [el_setI (by rw [h.1]; exact hqn)]
    rw [take_el hio, List.mem_append, List.mem_singleton, hq] at hn
    split
    · rename_i e; subst e; exact absurd (.inr rfl) hn
    · exact h.2.2 p hp (fun h9 => hn (.inl h9))
theorem AtI.all {l : List St} {out : List Int} (ho : OrderL l out) {ps : List Int} (h : AtI l.length out l.length ps) {q : Nat} (hq : q < l.length) : ∃ j, j < l.length ∧ el out j = (q : Int) ∧ el ps q = (j : Int) + 1 := by
  obtain ⟨j, hj, he⟩ := mem_el (ho.all hq)
  rw [ho.2] at hj
  have := h.2.1 j hj
  rw [he, Int.toNat_natCast] at this
  exact ⟨j, hj, he, this⟩
theorem AtI.later {l : List St} {out : List Int} (ho : OrderL l out) {ps : List Int} (h : AtI l.length out l.length ps) {q : Nat} (hq : q < l.length) {a : Ar} (ha : a ∈ (el l q).2) {t : Nat} (ht : a.2.2.2 = (t : Int)) (htn : t < l.length) : el ps q < el ps t := by
  obtain ⟨j, hj, he, hp⟩ := h.all ho hq
  have h1 := ho.later (by rw [ho.2]; exact hj) he ha ht htn
  obtain ⟨i, hi, e⟩ := List.mem_iff_getElem.1 h1
  rw [List.length_drop, ho.2] at hi
  rw [List.getElem_drop] at e
  have h2 := h.2.1 (j + 1 + i) (by omega)
  have e2 : el out (j + 1 + i) = (t : Int) := by rw [el_get (by rw [ho.2]; omega)]; exact e
  rw [e2, Int.toNat_natCast] at h2
  rw [hp, h2]
  omega
end Go.Proofs.Yteaafghmkkejfaa.Pl
