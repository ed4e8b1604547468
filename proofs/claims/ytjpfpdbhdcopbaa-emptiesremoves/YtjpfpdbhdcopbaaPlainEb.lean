/- The least costs along empty arcs alone, between all states (no program in sight). -/
import Derived.Test.YtjpfpdbhdcopbaaJ14g
import Derived.Test.YtjpfpdbhdcopbaaPlainX
namespace Go.Proofs.Ytjpfpdbhdcopbaa.Pl
set_option linter.unusedVariables false
set_option linter.unusedSimpArgs false
def empA (a : Ar) : Bool := decide (a.1 = 0) && decide (a.2.1 = 0)
theorem empA_iff {a : Ar} : empA a = true ↔ a.1 = 0 ∧ a.2.1 = 0 := by simp [empA]
def EmpE (l : List St) (k w j : Nat) : Prop := ∃ a ∈ (el l k).2, empA a = true ∧ a.2.2.2 = (j : Int) ∧ w = a.2.2.1.toNat
def HopC (l : List St) (q p c : Nat) : Prop := ∃ n, Run (EmpE l) q n p c
/-- What the least hops cost. -/
def HopT (m : Mc) (H : Nat → Nat → Int) : Prop := ∀ q p, q < m.2.length → p < m.2.length → TldQ (HopC m.2 q p) (H q p)
theorem emp_arc {l : List St} {k w j : Nat} (h : EmpE l k w j) : ArcE l k w j := by
  obtain ⟨a, h1, _, h2, h3⟩ := h
  exact ⟨a, h1, h2, h3⟩
theorem emp_small {m : Mc} (h : faultM m = 0) {k w j : Nat} (e : EmpE m.2 k w j) : j < m.2.length ∧ w ≤ 1000000000 := arcE_small h (emp_arc e)
theorem LstV.told {m : Mc} (h : faultM m = 0) {q p : Nat} {b : Int} (hb : LstV (EmpE m.2) m.2.length q p b) : TldQ (HopC m.2 q p) b := by
  have h60 := (right_size (z := m.1) (l := m.2) h).1
  have e1 : ∀ c, HopC m.2 q p c → Via (EmpE m.2) m.2.length q p c := fun c ⟨n, hn⟩ => run_via (fun k w j e => (emp_small h e).1) hn
  rcases hb with ⟨rfl, hb⟩ | ⟨c, hc, rfl, hl⟩
  · exact .inl ⟨rfl, fun c hc => hb c (e1 c hc)⟩
  · have : (m.2.length + 1) * 1000000000 ≤ 61 * 1000000000 := Nat.mul_le_mul_right _ (by omega)
    exact .inr ⟨c, ⟨hc.1.run, fun d hd => hc.2 d (e1 d hd)⟩, rfl, by omega⟩
theorem TldQ.one {P : Nat → Prop} {a b : Int} (h : TldQ P a) (g : TldQ P b) : a = b := by
  rcases h with ⟨rfl, h⟩ | ⟨c, h, rfl, _⟩ <;> rcases g with ⟨rfl, g⟩ | ⟨d, g, rfl, _⟩
  · rfl
  · exact absurd g.1 (h _)
  · exact absurd h.1 (g _)
  · rw [h.one g]
theorem least_of {P : Nat → Prop} {c : Nat} (h : P c) : ∃ d, LeastP P d := by
  induction c using Nat.strongRecOn with
  | _ c ih =>
    by_cases g : ∃ d, d < c ∧ P d
    · obtain ⟨d, h1, h2⟩ := g
      exact ih d h1 h2
    · exact ⟨c, h, fun d hd => by
        rcases Nat.lt_or_ge d c with h1 | h1
        · exact absurd ⟨d, h1, hd⟩ g
        · exact h1⟩
theorem hop_told {m : Mc} (h : faultM m = 0) (q p : Nat) : ∃ b, TldQ (HopC m.2 q p) b := by
  have h60 := (right_size (z := m.1) (l := m.2) h).1
  by_cases g : ∃ c, HopC m.2 q p c
  · obtain ⟨c, hc⟩ := g
    obtain ⟨d, hd⟩ := least_of hc
    obtain ⟨n, hn⟩ := hd.1
    obtain ⟨d', _, h2, h3⟩ := (run_via (fun k w j e => (emp_small h e).1) hn).cheap (W := 1000000000) (fun x w y e => (emp_small h e).2)
    have h4 := hd.2 d' h3.run
    have : (m.2.length + 1) * 1000000000 ≤ 61 * 1000000000 := Nat.mul_le_mul_right _ (by omega)
    exact ⟨(d : Int), .inr ⟨d, hd, rfl, by omega⟩⟩
  · exact ⟨noneI, .inl ⟨rfl, fun c hc => g ⟨c, hc⟩⟩⟩
theorem hopT_exists {m : Mc} (h : faultM m = 0) : ∃ H, HopT m H := ⟨fun q p => Classical.choose (hop_told h q p), fun q p _ _ => Classical.choose_spec (hop_told h q p)⟩
theorem TldQ.bd {P : Nat → Prop} {b : Int} (h : TldQ P b) : 0 ≤ b ∧ (b = noneI ∨ b ≤ 100000000000) := by
  rcases h with ⟨rfl, _⟩ | ⟨c, _, rfl, hc⟩
  · exact ⟨by decide, .inl rfl⟩
  · exact ⟨by omega, .inr (by omega)⟩
/-- A row behind j arcs of its state. -/
def RowI (l : List St) (q j : Nat) (row : List Int) : Prop := row.length = l.length ∧ ∀ p, p < l.length → (el row p = noneI ∨ ∃ c : Nat, Via (EmpE l) 0 q p c ∧ el row p = (c : Int)) ∧ (q = p → el row p ≤ 0) ∧ ∀ i, i < j → empA (el (el l q).2 i) = true → (el (el l q).2 i).2.2.2 = (p : Int) → el row p ≤ (el (el l q).2 i).2.2.1
theorem rowI_start {l : List St} {q : Nat} (hq : q < l.length) : RowI l q 0 ((List.replicate l.length noneI).set q 0) := by
  refine ⟨by simp, fun p hp => ?_⟩
  rw [el_set (by simpa using hp)]
  by_cases e : q = p
  · subst e
    rw [if_pos rfl]
    exact ⟨.inr ⟨0, .nil q, rfl⟩, fun _ => Int.le_refl _, fun i hi => by omega⟩
  · rw [if_neg e, el_replicateT hp]
    exact ⟨.inl rfl, fun h => absurd h e, fun i hi => by omega⟩
theorem rowI_skip {l : List St} {q j : Nat} {row : List Int} (h : RowI l q j row) (hn : empA (el (el l q).2 j) = false ∨ ∀ p, p < l.length → (el (el l q).2 j).2.2.2 = (p : Int) → el row p ≤ (el (el l q).2 j).2.2.1) : RowI l q (j + 1) row := by
  refine ⟨h.1, fun p hp => ⟨(h.2 p hp).1, (h.2 p hp).2.1, fun i hi h1 h2 => ?_⟩⟩
  by_cases e : i = j
  · subst e
    rcases hn with hn | hn
    · rw [hn] at h1; cases h1
    · exact hn p hp h2
  · exact (h.2 p hp).2.2 i (by omega) h1 h2
theorem rowI_set {l : List St} {q j t : Nat} {row : List Int} (h : RowI l q j row) (hj : j < (el l q).2.length) (he : empA (el (el l q).2 j) = true) (ht : (el (el l q).2 j).2.2.2 = (t : Int)) (htl : t < l.length) (h0 : 0 ≤ (el (el l q).2 j).2.2.1) (hl : (el (el l q).2 j).2.2.1 < el row t) : RowI l q (j + 1) (row.set t (el (el l q).2 j).2.2.1) := by
  refine ⟨by rw [List.length_set]; exact h.1, fun p hp => ?_⟩
  rw [el_set (by rw [h.1]; exact hp)]
  by_cases e : t = p
  · subst e
    rw [if_pos rfl]
    refine ⟨.inr ⟨(el (el l q).2 j).2.2.1.toNat, .arc ⟨_, el_mem hj, he, ht, rfl⟩, by omega⟩, fun hq => ?_, fun i hi h1 h2 => ?_⟩
    · have := (h.2 t hp).2.1 hq; omega
    · by_cases ei : i = j
      · subst ei; exact Int.le_refl _
      · have := (h.2 t hp).2.2 i (by omega) h1 h2; omega
  · rw [if_neg e]
    refine ⟨(h.2 p hp).1, (h.2 p hp).2.1, fun i hi h1 h2 => ?_⟩
    by_cases ei : i = j
    · subst ei; rw [ht] at h2; omega
    · exact (h.2 p hp).2.2 i (by omega) h1 h2
theorem rowI_end {m : Mc} (hr : faultM m = 0) {q : Nat} {row : List Int} (h : RowI m.2 q (el m.2 q).2.length row) {p : Nat} (hp : p < m.2.length) (hq : q < m.2.length) : LstV (EmpE m.2) 0 q p (el row p) := by
  refine LstV.mk (fun x w y e => (emp_small hr e).2) (h.2 p hp).1 (fun c hc => ?_) (by omega)
  cases hc with
  | nil => exact (h.2 _ hp).2.1 rfl
  | arc e =>
    obtain ⟨a, ha, he, ht, hw⟩ := e
    obtain ⟨i, hi, rfl⟩ := List.getElem_of_mem ha
    rw [← el_get hi] at he ht hw
    have h1 := (h.2 p hp).2.2 i hi he ht
    have h3 := (right_parts hr).2 (el m.2 q) (el_mem hq)
    simp only [stB, Bool.and_eq_true, List.all_eq_true] at h3
    have h4 := h3.2 _ (el_mem hi)
    simp only [arcB, inB, Bool.and_eq_true, decide_eq_true_eq] at h4
    omega
  | step e hj _ => omega
/-- The table in round k, ahead of place q, p. -/
def FwQ (l : List St) (k q p : Nat) (d : List (List Int)) : Prop := d.length = l.length ∧ (∀ q', q' < l.length → (el d q').length = l.length) ∧ ∀ q' p', q' < l.length → p' < l.length → LstV (EmpE l) (if q' < q ∨ (q' = q ∧ p' < p) then k + 1 else k) q' p' (el (el d q') p')
theorem fw_row {l : List St} {k q : Nat} {d : List (List Int)} (h : FwQ l k q l.length d) : FwQ l k (q + 1) 0 d := by
  refine ⟨h.1, h.2.1, fun q' p' h1 h2 => ?_⟩
  have h3 := h.2.2 q' p' h1 h2
  by_cases e : q' < q ∨ (q' = q ∧ p' < l.length)
  · rw [if_pos e] at h3; rw [if_pos (by omega)]; exact h3
  · rw [if_neg e] at h3; rw [if_neg (by omega)]; exact h3
theorem fw_round {l : List St} {k : Nat} {d : List (List Int)} (h : FwQ l k l.length 0 d) : FwQ l (k + 1) 0 0 d := by
  refine ⟨h.1, h.2.1, fun q' p' h1 h2 => ?_⟩
  have h3 := h.2.2 q' p' h1 h2
  rw [if_pos (.inl h1)] at h3
  rw [if_neg (by omega)]
  exact h3
theorem fw_end {m : Mc} (hr : faultM m = 0) {d : List (List Int)} (h : FwQ m.2 m.2.length 0 0 d) : HopT m (fun q p => el (el d q) p) := fun q p hq hp => by
  have h3 := h.2.2 q p hq hp
  rw [if_neg (by omega)] at h3
  exact h3.told hr
theorem FwQ.at {m : Mc} (hr : faultM m = 0) {k q p : Nat} {d : List (List Int)} (h : FwQ m.2 k q p d) (hk : k < m.2.length) (hq : q < m.2.length) (hp : p < m.2.length) : LstV (EmpE m.2) k q p (el (el d q) p) ∧ LstV (EmpE m.2) k q k (el (el d q) k) ∧ LstV (EmpE m.2) k k p (el (el d k) p) := by
  have h60 := (right_size (z := m.1) (l := m.2) hr).1
  have hW : ∀ x w y, EmpE m.2 x w y → w ≤ 1000000000 := fun x w y e => (emp_small hr e).2
  refine ⟨?_, ?_, ?_⟩
  · have h3 := h.2.2 q p hq hp
    rw [if_neg (by omega)] at h3; exact h3
  · have h3 := h.2.2 q k hq hk
    by_cases e : q < q ∨ (q = q ∧ k < p)
    · rw [if_pos e] at h3; exact h3.colK hW (by omega)
    · rw [if_neg e] at h3; exact h3
  · have h3 := h.2.2 k p hk hp
    by_cases e : k < q ∨ (k = q ∧ p < p)
    · rw [if_pos e] at h3; exact h3.rowK hW (by omega)
    · rw [if_neg e] at h3; exact h3
theorem FwQ.bd {m : Mc} (hr : faultM m = 0) {k q p : Nat} {d : List (List Int)} (h : FwQ m.2 k q p d) (hk : k < m.2.length) {q' p' : Nat} (hq : q' < m.2.length) (hp : p' < m.2.length) : 0 ≤ el (el d q') p' ∧ (el (el d q') p' = noneI ∨ el (el d q') p' ≤ 61000000000) := by
  have h60 := (right_size (z := m.1) (l := m.2) hr).1
  exact (h.2.2 q' p' hq hp).bd (by split <;> omega)
def putD (d : List (List Int)) (q p : Nat) (v : Int) : List (List Int) := d.set q ((el d q).set p v)
theorem fw_same {m : Mc} (hr : faultM m = 0) {k q p : Nat} {d : List (List Int)} (h : FwQ m.2 k q p d) (hk : k < m.2.length) (hq : q < m.2.length) (hp : p < m.2.length) (hn : ¬ (el (el d q) k ≠ noneI ∧ el (el d k) p ≠ noneI ∧ el (el d q) k + el (el d k) p < el (el d q) p)) : FwQ m.2 k q (p + 1) d := by
  have h60 := (right_size (z := m.1) (l := m.2) hr).1
  obtain ⟨a, b, c⟩ := h.at hr hk hq hp
  have s := LstV.step (fun x w y e => (emp_small hr e).2) (by omega) a b c
  rw [if_neg hn] at s
  refine ⟨h.1, h.2.1, fun q' p' h1 h2 => ?_⟩
  by_cases e : q' = q ∧ p' = p
  · obtain ⟨rfl, rfl⟩ := e
    rw [if_pos (.inr ⟨rfl, by omega⟩)]; exact s
  · have h3 := h.2.2 q' p' h1 h2
    by_cases e2 : q' < q ∨ (q' = q ∧ p' < p)
    · rw [if_pos e2] at h3; rw [if_pos (by omega)]; exact h3
    · rw [if_neg e2] at h3; rw [if_neg (by omega)]; exact h3
theorem fw_less {m : Mc} (hr : faultM m = 0) {k q p : Nat} {d : List (List Int)} (h : FwQ m.2 k q p d) (hk : k < m.2.length) (hq : q < m.2.length) (hp : p < m.2.length) (hn : el (el d q) k ≠ noneI ∧ el (el d k) p ≠ noneI ∧ el (el d q) k + el (el d k) p < el (el d q) p) : FwQ m.2 k q (p + 1) (putD d q p (el (el d q) k + el (el d k) p)) := by
  have h60 := (right_size (z := m.1) (l := m.2) hr).1
  obtain ⟨a, b, c⟩ := h.at hr hk hq hp
  have s := LstV.step (fun x w y e => (emp_small hr e).2) (by omega) a b c
  rw [if_pos hn] at s
  unfold putD
  refine ⟨by rw [List.length_set]; exact h.1, fun q' hq' => ?_, fun q' p' h1 h2 => ?_⟩
  · rw [el_set (by rw [h.1]; exact hq')]
    split
    · rw [List.length_set]; exact h.2.1 q hq
    · exact h.2.1 q' hq'
  · rw [el_set (by rw [h.1]; exact h1)]
    by_cases eq : q = q'
    · subst eq
      rw [if_pos rfl, el_set (by rw [h.2.1 q hq]; exact h2)]
      by_cases ep : p = p'
      · subst ep
        rw [if_pos rfl, if_pos (.inr ⟨rfl, by omega⟩)]; exact s
      · rw [if_neg ep]
        have h3 := h.2.2 q p' h1 h2
        by_cases e2 : q < q ∨ (q = q ∧ p' < p)
        · rw [if_pos e2] at h3; rw [if_pos (by omega)]; exact h3
        · rw [if_neg e2] at h3; rw [if_neg (by omega)]; exact h3
    · rw [if_neg eq]
      have h3 := h.2.2 q' p' h1 h2
      by_cases e2 : q' < q ∨ (q' = q ∧ p' < p)
      · rw [if_pos e2] at h3; rw [if_pos (by omega)]; exact h3
      · rw [if_neg e2] at h3; rw [if_neg (by omega)]; exact h3
/-- Rows that are all there. -/
def RowsT (l : List St) (q : Nat) (d : List (List Int)) : Prop := d.length = q ∧ ∀ q', q' < q → RowI l q' (el l q').2.length (el d q')
theorem rowsT_snoc {l : List St} {q : Nat} {d : List (List Int)} {row : List Int} (h : RowsT l q d) (hr : RowI l q (el l q).2.length row) : RowsT l (q + 1) (d ++ [row]) := by
  refine ⟨by simp [h.1], fun q' hq' => ?_⟩
  by_cases e : q' < q
  · rw [el_left (by rw [h.1]; exact e)]; exact h.2 q' e
  · obtain rfl : q' = q := by omega
    rw [← h.1, el_last, h.1]; exact hr
theorem fw_start {m : Mc} (hr : faultM m = 0) {d : List (List Int)} (h : RowsT m.2 m.2.length d) : FwQ m.2 0 0 0 d := by
  refine ⟨h.1, fun q' hq' => (h.2 q' hq').1, fun q' p' h1 h2 => ?_⟩
  rw [if_neg (by omega)]
  exact rowI_end hr (h.2 q' h1) h2 h1
end Go.Proofs.Ytjpfpdbhdcopbaa.Pl
