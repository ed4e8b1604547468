/- How far it is: the least over all states, and that each state is led to by an arc as cheap (no program in sight). -/
import Derived.Test.YtibafdehgmalgaaPlainDe
import Derived.Test.YtibafdehgmalgaaPlainWp
namespace Go.Proofs.Ytibafdehgmalgaa.Pl
set_option linter.unusedVariables false
set_option linter.unusedSimpArgs false
theorem fin_cst {m : Mc} (hr : faultM m = 0) (hc : CheapL m.2) {q : Nat} (hq : q < m.2.length) : CstIs (fun c => (el m.2 q).1 ≠ 1000000001 ∧ c = (el m.2 q).1.toNat) (el m.2 q).1 := by
  by_cases h : (el m.2 q).1 = 1000000001
  · exact .inl ⟨h, fun c hc => hc.1 h⟩
  · have h1 := fin_small hr hq h
    have h2 := (hc _ (el_mem hq)).1 h
    exact .inr ⟨(el m.2 q).1.toNat, ⟨⟨h, rfl⟩, fun d hd => by have := hd.2; omega⟩, by omega, by omega⟩
/-- The first k states. -/
def ToK (k i j : Nat) : Prop := i < k ∧ j = 0
theorem toK_step (k i j : Nat) : ToK (k + 1) i j ↔ ToK k i j ∨ (i = k ∧ j = 0) := by unfold ToK; omega
theorem toK_none (i j : Nat) : ¬ ToK 0 i j := by unfold ToK; omega
theorem meets_by {m : Mc} (hr : faultM m = 0) (hc : CheapL m.2) (hz : 0 ≤ m.1) {vs : List Int} {n v : Int} (hn : CstIs (EndC m.2 m.1.toNat) n) (hA : ∀ q, q < m.2.length → CstIs (FarC m.1 m.2 q) (el vs q)) (hv : MinOf (ToK m.2.length) (fun i _ => bothI (el vs i) (el m.2 i).1) v) : n = v :=
  best_cut (P1 := fun i _ => FarC m.1 m.2 i) (P2 := fun i _ c => (el m.2 i).1 ≠ 1000000001 ∧ c = (el m.2 i).1.toNat) (fun i j hs => hA i hs.1) (fun i j hs => fin_cst hr hc hs.1)
    (fun i j c1 c2 hs h1 h2 => (end_by hz _).2 ⟨i, c1, hs.1, h1, h2.1, by rw [h2.2]⟩)
    (fun c h => by
      obtain ⟨q, a, hq, h1, h2, h3⟩ := (end_by hz _).1 h
      exact ⟨q, 0, a, _, ⟨hq, rfl⟩, h1, ⟨h2, rfl⟩, by omega⟩) hn hv
theorem meets_on {m : Mc} (hr : faultM m = 0) (hz : 0 ≤ m.1) {vs ks : List Int} {n v : Int} (hn : CstIs (EndC m.2 m.1.toNat) n) (hA : ∀ q, q < m.2.length → CstIs (FarC m.1 m.2 q) (el vs q)) (hB : ∀ q, q < m.2.length → CstIs (EndC m.2 q) (el ks q)) (hv : MinOf (ToK m.2.length) (fun i _ => bothI (el vs i) (el ks i)) v) : n = v :=
  best_cut (P1 := fun i _ => FarC m.1 m.2 i) (P2 := fun i _ => EndC m.2 i) (fun i j hs => hA i hs.1) (fun i j hs => hB i hs.1)
    (fun i j c1 c2 hs h1 h2 => (end_on hr hz _).2 ⟨i, c1, c2, hs.1, h1, h2, rfl⟩)
    (fun c h => by
      obtain ⟨q, a, b, hq, h1, h2, h3⟩ := (end_on hr hz _).1 h
      exact ⟨q, 0, a, b, ⟨hq, rfl⟩, h1, h2, by omega⟩) hn hv
/-- The start is no way off. -/
theorem tight_start {m : Mc} (hz : 0 ≤ m.1) {n : Int} (h : CstIs (FarC m.1 m.2 m.1.toNat) n) : n = 0 := by
  have h1 := h.low (c := 0) ⟨hz, 0, .nil⟩
  have h2 := h.nonneg
  omega
/-- No arc leads on for less. -/
theorem tight_le {m : Mc} (hr : faultM m = 0) {vs : List Int} (hA : ∀ q, q < m.2.length → CstIs (FarC m.1 m.2 q) (el vs q)) {q w j : Nat} (e : ArcE m.2 q w j) : el vs j ≤ bothI (el vs q) (w : Int) := by
  have hj := (arcE_small hr e).1
  have hw := (arcE_small hr e).2
  unfold bothI
  split
  · exact (hA j hj).range.2
  · rename_i g
    have h1 := (hA q (arcE_in e)).inf (fun h => g (.inl h))
    have h0 := (hA q (arcE_in e)).nonneg
    obtain ⟨⟨hz, n, hn⟩, _⟩ := h1
    have := ((hA j hj).low ⟨hz, n + 1, hn.step e⟩).2
    omega
/-- Each state that is reached, but the start, is led to by an arc that is as cheap. -/
theorem tight_had {m : Mc} (hr : faultM m = 0) {vs : List Int} (hA : ∀ q, q < m.2.length → CstIs (FarC m.1 m.2 q) (el vs q)) {j : Nat} (hj : j < m.2.length) (hne : j ≠ m.1.toNat) (hn : el vs j ≠ 1000000001) : ∃ q w, q < m.2.length ∧ ArcE m.2 q w j ∧ el vs q ≠ 1000000001 ∧ el vs j = el vs q + (w : Int) := by
  obtain ⟨⟨hz, n, h⟩, hb⟩ := (hA j hj).inf hn
  have h0 := (hA j hj).nonneg
  generalize hc : (el vs j).toNat = c at h
  cases h with
  | nil => exact absurd rfl hne
  | step h e =>
    rename_i n k c w
    have hk := arcE_in e
    have h1 := (hA k hk).low ⟨hz, n, h⟩
    have h2 := tight_le hr hA e
    have hw := (arcE_small hr e).2
    unfold bothI at h2
    rw [if_neg (fun g => g.elim h1.1 (by omega))] at h2
    exact ⟨k, w, hk, e, h1.1, by omega⟩
end Go.Proofs.Ytibafdehgmalgaa.Pl
