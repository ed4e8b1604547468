/- Where there is no order: what a cycle leads to; where there is one: places in it (no program in sight). -/
import Derived.Test.YtfffelgmgghldabJ11a
namespace Go.Proofs.Ytfffelgmgghldab.Pl
/-- Does an arc lead to q from one of the first states of the list that is left? -/
def ledB (l : List St) (bs : List Bool) (p q : Nat) : Bool := (List.range p).any fun x => el bs x && leadsB l x q
theorem ledB_succ (l : List St) (bs : List Bool) (p q : Nat) : ledB l bs (p + 1) q = (ledB l bs p q || (el bs p && leadsB l p q)) := by
  unfold ledB
  rw [List.range_succ, List.any_append]; simp
theorem sub_len : ∀ (a b : List Int), a.Nodup → (∀ x ∈ a, x ∈ b) → a.length ≤ b.length := by
  intro a
  induction a with
  | nil => intro b _ _; simp
  | cons x a ih =>
    intro b hn h
    have h1 := h x (by simp)
    have h2 := ih (b.erase x) (List.nodup_cons.1 hn).2 (fun y hy => by
      have hne : y ≠ x := fun e => by subst e; exact (List.nodup_cons.1 hn).1 hy
      exact (List.mem_erase_of_ne hne).2 (h y (by simp [hy])))
    rw [List.length_erase_of_mem h1] at h2
    have h3 : 0 < b.length := List.length_pos_of_mem h1
    simp only [List.length_cons]
    omega
/-- What is left has all that can't be told. -/
def Sup (n : Nat) (out : List Int) (bs : List Bool) : Prop := bs.length = n ∧ ∀ q, q < n → (q : Int) ∉ out → el bs q = true
theorem stuck_some {l : List St} {out : List Int} (hl : out.length < l.length) : ∃ q, q < l.length ∧ (q : Int) ∉ out := by
  by_cases h : ∃ q, q < l.length ∧ (q : Int) ∉ out
  · exact h
  · exfalso
    have h1 := sub_len (numsL l.length) out (by
      unfold numsL
      rw [List.nodup_iff_pairwise_ne, List.pairwise_map]
      refine (List.pairwise_lt_range (n := l.length)).imp ?_
      intro a b hab; omega) (fun x hx => by
      unfold numsL at hx
      obtain ⟨q, hq, rfl⟩ := List.mem_map.1 hx
      by_cases e : (q : Int) ∈ out
      · exact e
      · exact absurd ⟨q, List.mem_range.1 hq, e⟩ h)
    rw [numsL_length] at h1
    omega
theorem stuck_led {l : List St} {out : List Int} (hf : ∀ q, q < l.length → ¬ FreeQ l out q) {bs : List Bool} (hb : Sup l.length out bs) {q : Nat} (hq : q < l.length) (hn : (q : Int) ∉ out) : ledB l bs l.length q = true := by
  have h1 := hf q hq
  by_cases h : ∃ p, p < l.length ∧ leadsB l p q = true ∧ (p : Int) ∉ out
  · obtain ⟨p, hp, h2, h3⟩ := h
    unfold ledB
    exact List.any_eq_true.2 ⟨p, List.mem_range.2 hp, by rw [hb.2 p hp h3, h2]; rfl⟩
  · exfalso
    refine h1 ⟨hn, fun p hp h2 => ?_⟩
    by_cases e : (p : Int) ∈ out
    · exact e
    · exact absurd ⟨p, hp, h2, e⟩ h
theorem el_setAny {l : List Bool} {q j : Nat} (hq : q < l.length) (b : Bool) : el (l.set q b) j = if j = q then b else el l j := by
  by_cases h : j = q
  · subst h; rw [if_pos rfl, el_get (by simpa using hq)]; simp
  · rw [if_neg h]; simp [el, List.getElem?_set_ne (Ne.symm h)]
theorem Sup.set {l : List St} {out : List Int} (hf : ∀ q, q < l.length → ¬ FreeQ l out q) {bs : List Bool} (hb : Sup l.length out bs) {q : Nat} (hq : q < l.length) : Sup l.length out (bs.set q (el bs q && ledB l bs l.length q)) := by
  refine ⟨by simpa using hb.1, fun p hp hn => ?_⟩
  rw [el_setAny (by rw [hb.1]; exact hq)]
  split
  · rename_i e
    subst e
    rw [hb.2 p hp hn, stuck_led hf hb hp hn]; rfl
  · exact hb.2 p hp hn
theorem Sup.some {l : List St} {out : List Int} (hl : out.length < l.length) {bs : List Bool} (hb : Sup l.length out bs) : (List.range l.length).any (fun q => el bs q) = true := by
  obtain ⟨q, hq, hn⟩ := stuck_some hl
  exact List.any_eq_true.2 ⟨q, List.mem_range.2 hq, hb.2 q hq hn⟩
/-- The places of the first i of an order, plus 1. -/
def AtI (n : Nat) (out : List Int) (i : Nat) (ps : List Int) : Prop := ps.length = n ∧ (∀ j, j < i → el ps (el out j).toNat = (j : Int) + 1) ∧ ∀ q, q < n → (q : Int) ∉ out.take i → el ps q = 0
theorem AtI.start (n : Nat) (out : List Int) : AtI n out 0 (List.replicate n 0) := ⟨by simp, fun j hj => absurd hj (Nat.not_lt_zero _), fun q hq _ => by simp [el, hq]⟩
theorem el_setI {l : List Int} {q j : Nat} (hq : q < l.length) (x : Int) : el (l.set q x) j = if j = q then x else el l j := by
  by_cases h : j = q
  · subst h; rw [if_pos rfl, el_get (by simpa using hq)]; simp
  · rw [if_neg h]; simp [el, List.getElem?_set_ne (Ne.symm h)]
theorem AtI.next {l : List St} {out : List Int} (ho : OrderL l out) {i : Nat} (hi : i < l.length) {ps : List Int} (h : AtI l.length out i ps) {q : Nat} (hq : el out i = (q : Int)) (hqn : q < l.length) : el ps q = 0 ∧ AtI l.length out (i + 1) (ps.set q ((i : Int) + 1)) := by
  have hio : i < out.length := by rw [ho.2]; exact hi
  have hno : (q : Int) ∉ out.take i := by
    obtain ⟨q', e, _, hf, _⟩ := ho.1 i hio
    rw [hq] at e
    rw [e]; exact hf.1
  refine ⟨h.2.2 q hqn hno, by simpa using h.1, fun j hj => ?_, fun p hp hn => ?_⟩
  · by_cases e : j = i
    · subst e
      rw [hq, Int.toNat_natCast, el_setI (by rw [h.1]; exact hqn), if_pos rfl]
    · obtain ⟨p, e2, hp, _⟩ := ho.1 j (by omega)
      rw [e2, Int.toNat_natCast, el_setI (by rw [h.1]; exact hqn), if_neg]
      · have := h.2.1 j (by omega)
        rw [e2, Int.toNat_natCast] at this
        exact this
      · intro e3
        refine hno ?_
        rw [← e3, ← e2]
        have : el (out.take i) j = el out j := el_take (by omega)
        rw [← this]
        exact el_mem (by rw [List.length_take]; omega)
  · rw [el_setI (by rw [h.1]; exact hqn)]
    rw [take_el hio, List.mem_append, List.mem_singleton, hq] at hn
    split
    · rename_i e; subst e; exact absurd (.inr rfl) hn
    · exact h.2.2 p hp (fun h9 => hn (.inl h9))
theorem AtI.all {l : List St} {out : List Int} (ho : OrderL l out) {ps : List Int} (h : AtI l.length out l.length ps) {q : Nat} (hq : q < l.length) : ∃ j, j < l.length ∧ el out j = (q : Int) ∧ el ps q = (j : Int) + 1 := by
  obtain ⟨j, hj, he⟩ := mem_el (ho.all hq)
  rw [ho.2] at hj
  have := h.2.1 j hj
  rw [he, Int.toNat_natCast] at this
  exact ⟨j, hj, he, this⟩
theorem AtI.later {l : List St} {out : List Int} (ho : OrderL l out) {ps : List Int} (h : AtI l.length out l.length ps) {q : Nat} (hq : q < l.length) {a : Ar} (ha : a ∈ (el l q).2) {t : Nat} (ht : a.2.2.2 = (t : Int)) (htn : t < l.length) : el ps q < el ps t := by
  obtain ⟨j, hj, he, hp⟩ := h.all ho hq
  have h1 := ho.later (by rw [ho.2]; exact hj) he ha ht htn
  obtain ⟨i, hi, e⟩ := List.mem_iff_getElem.1 h1
  rw [List.length_drop, ho.2] at hi
  rw [List.getElem_drop] at e
  have h2 := h.2.1 (j + 1 + i) (by omega)
  have e2 : el out (j + 1 + i) = (t : Int) := by rw [el_get (by rw [ho.2]; omega)]; exact e
  rw [e2, Int.toNat_natCast] at h2
  rw [hp, h2]
  omega
end Go.Proofs.Ytfffelgmgghldab.Pl
