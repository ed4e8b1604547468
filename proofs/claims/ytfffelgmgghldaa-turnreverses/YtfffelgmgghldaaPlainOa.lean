/- What is answered of orders, paths, the longest path: it is but one (no program in sight). -/
import Derived.Test.YtfffelgmgghldaaPlainO
namespace Go.Proofs.Ytfffelgmgghldaa.Pl
/-- What is answered: the number, the error. -/
def pathA (z : Int) (c : Nat) : Int × Int := if z < 0 then (0, 0) else if 1000000000 < c then (0, 4) else ((c : Int), 0)
def farA (z d : Int) : Int × Int := if z < 0 ∨ d < 0 then (0, 12) else (d, 0)
def OrdAns (m : Mc) (r ec : Int) (out : List Int) : Prop := if r = 0 then ((ec = 0 ∧ OrderL m.2 out) ∨ (ec = 6 ∧ CycleL m.2 ∧ out = [])) else ec = r ∧ out = []
def PathAns (m : Mc) (r x ec : Int) : Prop := if r = 0 then ((∃ out, OrderL m.2 out ∧ pathA m.1 (cntF m.2 out m.1.toNat) = (x, ec)) ∨ (CycleL m.2 ∧ x = 0 ∧ ec = 6)) else x = 0 ∧ ec = r
def FarAns (m : Mc) (r x ec : Int) : Prop := if r = 0 then ((∃ out, OrderL m.2 out ∧ farA m.1 (farF m.2 out m.1.toNat) = (x, ec)) ∨ (CycleL m.2 ∧ x = 0 ∧ ec = 6)) else x = 0 ∧ ec = r
theorem OrdAns.one {m : Mc} {r e1 e2 : Int} {o1 o2 : List Int} (h : OrdAns m r e1 o1) (k : OrdAns m r e2 o2) : e1 = e2 ∧ o1 = o2 := by
  unfold OrdAns at h k
  split at h
  · rename_i h0
    rw [if_pos h0] at k
    rcases h with ⟨rfl, h1⟩ | ⟨rfl, h1, rfl⟩
    · rcases k with ⟨rfl, k1⟩ | ⟨rfl, k1, rfl⟩
      · exact ⟨rfl, h1.one k1⟩
      · exact absurd k1 h1.noCycle
    · rcases k with ⟨rfl, k1⟩ | ⟨rfl, k1, rfl⟩
      · exact absurd h1 k1.noCycle
      · exact ⟨rfl, rfl⟩
  · rename_i h0
    rw [if_neg h0] at k
    exact ⟨h.1.trans k.1.symm, h.2.trans k.2.symm⟩
theorem OrdAns.len {m : Mc} {r e : Int} {o : List Int} (h : OrdAns m r e o) : o.length ≤ m.2.length := by
  unfold OrdAns at h
  split at h
  · rcases h with ⟨_, h1⟩ | ⟨_, _, rfl⟩
    · rw [h1.2]; exact Nat.le_refl _
    · simp
  · rw [h.2]; simp
theorem PathAns.one {m : Mc} {r x1 e1 x2 e2 : Int} (h : PathAns m r x1 e1) (k : PathAns m r x2 e2) : x1 = x2 ∧ e1 = e2 := by
  unfold PathAns at h k
  split at h
  · rename_i h0
    rw [if_pos h0] at k
    rcases h with ⟨o1, h1, h2⟩ | ⟨h1, rfl, rfl⟩
    · rcases k with ⟨o2, k1, k2⟩ | ⟨k1, rfl, rfl⟩
      · rw [h1.one k1, k2] at h2
        simp only [Prod.mk.injEq] at h2
        exact ⟨h2.1.symm, h2.2.symm⟩
      · exact absurd k1 h1.noCycle
    · rcases k with ⟨o2, k1, k2⟩ | ⟨k1, rfl, rfl⟩
      · exact absurd h1 k1.noCycle
      · exact ⟨rfl, rfl⟩
  · rename_i h0
    rw [if_neg h0] at k
    exact ⟨h.1.trans k.1.symm, h.2.trans k.2.symm⟩
theorem FarAns.one {m : Mc} {r x1 e1 x2 e2 : Int} (h : FarAns m r x1 e1) (k : FarAns m r x2 e2) : x1 = x2 ∧ e1 = e2 := by
  unfold FarAns at h k
  split at h
  · rename_i h0
    rw [if_pos h0] at k
    rcases h with ⟨o1, h1, h2⟩ | ⟨h1, rfl, rfl⟩
    · rcases k with ⟨o2, k1, k2⟩ | ⟨k1, rfl, rfl⟩
      · rw [h1.one k1, k2] at h2
        simp only [Prod.mk.injEq] at h2
        exact ⟨h2.1.symm, h2.2.symm⟩
      · exact absurd k1 h1.noCycle
    · rcases k with ⟨o2, k1, k2⟩ | ⟨k1, rfl, rfl⟩
      · exact absurd h1 k1.noCycle
      · exact ⟨rfl, rfl⟩
  · rename_i h0
    rw [if_neg h0] at k
    exact ⟨h.1.trans k.1.symm, h.2.trans k.2.symm⟩
/-! Along an order the equations hold, and they have but one solution. -/
theorem cnt_mem_not {l : List St} {a b : List Int} {p : Nat} (h : ∀ x ∈ a, p ≠ x.toNat) : cntF l (a ++ b) p = cntF l b p := by
  induction a with
  | nil => rfl
  | cons x a ih =>
    show (if p = x.toNat then _ else _) = _
    rw [if_neg (h x (by simp))]
    exact ih (fun y hy => h y (by simp [hy]))
theorem far_mem_not {l : List St} {a b : List Int} {p : Nat} (h : ∀ x ∈ a, p ≠ x.toNat) : farF l (a ++ b) p = farF l b p := by
  induction a with
  | nil => rfl
  | cons x a ih =>
    show (if p = x.toNat then _ else _) = _
    rw [if_neg (h x (by simp))]
    exact ih (fun y hy => h y (by simp [hy]))
theorem OrderL.ahead {l : List St} {out : List Int} (h : OrderL l out) {i : Nat} {t : Nat} (ht : (t : Int) ∈ out.drop i) : ∀ x ∈ out.take i, t ≠ x.toNat := by
  intro x hx e
  obtain ⟨q, rfl, _⟩ := h.1.mem (List.mem_of_mem_take hx)
  have hnd := h.1.nodup
  rw [← List.take_append_drop i out, List.nodup_append] at hnd
  simp at e
  subst e
  exact hnd.2.2 _ hx _ ht rfl
theorem OrderL.cnt {l : List St} {out : List Int} (h : OrderL l out) (hto : ∀ q, q < l.length → ∀ a ∈ (el l q).2, ∃ t : Nat, a.2.2.2 = (t : Int) ∧ t < l.length) : CntEq l (cntF l out) := by
  intro q hq
  obtain ⟨i, hi, he⟩ := mem_el (h.all hq)
  have hd : out.drop i = (q : Int) :: out.drop (i + 1) := by rw [List.drop_eq_getElem_cons hi, ← el_get hi, he]
  have h1 : cntF l out q = cntF l (out.drop i) q := by
    conv => lhs; rw [← List.take_append_drop i out]
    exact cnt_mem_not (h.ahead (i := i) (by rw [hd]; simp))
  rw [h1, hd]
  show (if q = ((q : Int)).toNat then _ else _) = _
  rw [if_pos (by simp)]
  congr 1
  refine sumF_congr fun a ha => ?_
  obtain ⟨t, ht, htn⟩ := hto q hq a ha
  have h2 := h.later hi he ha ht htn
  rw [ht, Int.toNat_natCast]
  conv => rhs; rw [← List.take_append_drop (i + 1) out]
  exact (cnt_mem_not (h.ahead h2)).symm
theorem OrderL.far {l : List St} {out : List Int} (h : OrderL l out) (hto : ∀ q, q < l.length → ∀ a ∈ (el l q).2, ∃ t : Nat, a.2.2.2 = (t : Int) ∧ t < l.length) : FarEq l (farF l out) := by
  intro q hq
  obtain ⟨i, hi, he⟩ := mem_el (h.all hq)
  have hd : out.drop i = (q : Int) :: out.drop (i + 1) := by rw [List.drop_eq_getElem_cons hi, ← el_get hi, he]
  have h1 : farF l out q = farF l (out.drop i) q := by
    conv => lhs; rw [← List.take_append_drop i out]
    exact far_mem_not (h.ahead (i := i) (by rw [hd]; simp))
  rw [h1, hd]
  show (if q = ((q : Int)).toNat then _ else _) = _
  rw [if_pos (by simp)]
  refine maxF_congr (fun a ha => ?_) _
  obtain ⟨t, ht, htn⟩ := hto q hq a ha
  have h2 := h.later hi he ha ht htn
  rw [ht, Int.toNat_natCast]
  conv => rhs; rw [← List.take_append_drop (i + 1) out]
  exact (far_mem_not (h.ahead h2)).symm
/-- From behind along an order. -/
theorem OrderL.ind {l : List St} {out : List Int} (h : OrderL l out) (hto : ∀ q, q < l.length → ∀ a ∈ (el l q).2, ∃ t : Nat, a.2.2.2 = (t : Int) ∧ t < l.length) {P : Nat → Prop} (step : ∀ q, q < l.length → (∀ a ∈ (el l q).2, P a.2.2.2.toNat) → P q) : ∀ q, q < l.length → P q := by
  have key : ∀ k i, i < out.length → out.length - i ≤ k → P (el out i).toNat := by
    intro k
    induction k with
    | zero => intro i hi hk; omega
    | succ k ih =>
      intro i hi hk
      obtain ⟨q, he, hq, _⟩ := h.1 i hi
      rw [he, Int.toNat_natCast]
      refine step q hq fun a ha => ?_
      obtain ⟨t, ht, htn⟩ := hto q hq a ha
      have h2 := h.later hi he ha ht htn
      obtain ⟨j, hj, hej⟩ := List.mem_iff_getElem.1 h2
      rw [List.length_drop] at hj
      rw [List.getElem_drop] at hej
      have h3 := ih (i + 1 + j) (by omega) (by omega)
      rw [el_get (by omega), hej] at h3
      rw [ht]; exact h3
  intro q hq
  obtain ⟨i, hi, he⟩ := mem_el (h.all hq)
  have := key out.length i hi (by omega)
  rw [he, Int.toNat_natCast] at this
  exact this
theorem cnt_one {l : List St} {out : List Int} (h : OrderL l out) (hto : ∀ q, q < l.length → ∀ a ∈ (el l q).2, ∃ t : Nat, a.2.2.2 = (t : Int) ∧ t < l.length) {f g : Nat → Nat} (hf : CntEq l f) (hg : CntEq l g) : ∀ q, q < l.length → f q = g q :=
  h.ind hto fun q hq ih => by rw [hf q hq, hg q hq, sumF_congr ih]
theorem far_one {l : List St} {out : List Int} (h : OrderL l out) (hto : ∀ q, q < l.length → ∀ a ∈ (el l q).2, ∃ t : Nat, a.2.2.2 = (t : Int) ∧ t < l.length) {f g : Nat → Int} (hf : FarEq l f) (hg : FarEq l g) : ∀ q, q < l.length → f q = g q :=
  h.ind hto fun q hq ih => by rw [hf q hq, hg q hq, maxF_congr ih]
end Go.Proofs.Ytfffelgmgghldaa.Pl
