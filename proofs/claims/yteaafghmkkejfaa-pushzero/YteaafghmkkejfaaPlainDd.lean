/- How far it is: the answers as numbers, for machines of small weights; what the ways have to do with each other (no program in sight). -/
import Derived.Test.YteaafghmkkejfaaJ15g
import Derived.Test.YteaafghmkkejfaaJ15f
namespace Go.Proofs.Yteaafghmkkejfaa.Pl
set_option linter.unusedVariables false
set_option linter.unusedSimpArgs false
theorem arcE_cheap {m : Mc} (hc : CheapL m.2) {k w j : Nat} (e : ArcE m.2 k w j) : w ≤ 1000 := by
  have hk := arcE_in e
  obtain ⟨a, ha, _, rfl⟩ := e
  have := (hc _ (el_mem hk)).2 a ha
  omega
theorem run_cheap {m : Mc} (hr : faultM m = 0) (hc : CheapL m.2) {s n q c : Nat} (hs : s < m.2.length) (h : Run (ArcE m.2) s n q c) : ∃ n' d, d ≤ 60000 ∧ d ≤ c ∧ Run (ArcE m.2) s n' q d := by
  have h60 := (right_size (z := m.1) (l := m.2) hr).1
  obtain ⟨n', d, hn, hd, h'⟩ := h.cheap hs (fun k w j e => (arcE_small hr e).1)
  have h1 := h'.cost (W := 1000) (fun k w j e => arcE_cheap hc e)
  have h2 : n' * 1000 ≤ 60 * 1000 := Nat.mul_le_mul_right _ (by omega)
  exact ⟨n', d, by omega, hd, h'⟩
theorem far_bound {m : Mc} (hr : faultM m = 0) (hc : CheapL m.2) {q c : Nat} (h : FarC m.1 m.2 q c) : ∃ d, d ≤ 100000000 ∧ FarC m.1 m.2 q d := by
  obtain ⟨hz, n, h⟩ := h
  obtain ⟨n', d, hd, _, h'⟩ := run_cheap hr hc (by have := (right_parts hr).1; omega) h
  exact ⟨d, by omega, hz, n', h'⟩
theorem end_bound {m : Mc} (hr : faultM m = 0) (hc : CheapL m.2) {q c : Nat} (hq : q < m.2.length) (h : EndC m.2 q c) : ∃ d, d ≤ 100000000 ∧ EndC m.2 q d := by
  obtain ⟨n, p, d, h, hp, hf, rfl⟩ := h
  obtain ⟨n', d', hd, _, h'⟩ := run_cheap hr hc hq h
  have := (hc _ (el_mem hp)).1 hf
  exact ⟨d' + (el m.2 p).1.toNat, by omega, n', p, d', h', hp, hf, rfl⟩
theorem dst_cst {m : Mc} {P : Nat → Nat → Prop} {vs : List Int} {ec : Int} (hr : faultM m = 0) (hb : ∀ q, q < m.2.length → ∀ c, P q c → ∃ d, d ≤ 100000000 ∧ P q d) (h : DstAns m P vs ec) : ec = 0 ∧ vs.length = m.2.length ∧ ∀ q, q < m.2.length → CstIs (P q) (el vs q) := by
  rcases h with ⟨h, _⟩ | ⟨_, ⟨h1, h2, h3⟩ | ⟨_, _, q, hq, h4⟩⟩
  · exact absurd hr h
  · exact ⟨h1, h2, fun q hq => (cst_of (h3 q hq) (hb q hq)).2⟩
  · exact absurd (cst_of h4 (hb q hq)).1 (by decide)
theorem far_cst {m : Mc} {vs : List Int} {ec : Int} (hr : faultM m = 0) (hc : CheapL m.2) (h : DstAns m (FarC m.1 m.2) vs ec) : ec = 0 ∧ vs.length = m.2.length ∧ ∀ q, q < m.2.length → CstIs (FarC m.1 m.2 q) (el vs q) := dst_cst hr (fun q hq c => far_bound hr hc) h
theorem end_cst {m : Mc} {vs : List Int} {ec : Int} (hr : faultM m = 0) (hc : CheapL m.2) (h : DstAns m (EndC m.2) vs ec) : ec = 0 ∧ vs.length = m.2.length ∧ ∀ q, q < m.2.length → CstIs (EndC m.2 q) (el vs q) := dst_cst hr (fun q hq c => end_bound hr hc hq) h
theorem lpa_cst {m : Mc} {x ec : Int} (hr : faultM m = 0) (hc : CheapL m.2) (hz : 0 ≤ m.1) (h : LpaAns m x ec) : ec = 0 ∧ CstIs (EndC m.2 m.1.toNat) x := by
  obtain ⟨vs, f, h1, h2⟩ := h
  obtain ⟨rfl, h3, h4⟩ := end_cst hr hc h1
  rcases h2 with ⟨h2, _⟩ | ⟨_, h5, h6⟩
  · exact absurd rfl h2
  · rw [if_neg (by omega)] at h6
    rw [h6]
    exact ⟨h5, h4 _ (by have := (right_parts hr).1; omega)⟩
/-- From the start to an end: over some state. -/
theorem end_by {m : Mc} (hz : 0 ≤ m.1) (c : Nat) : EndC m.2 m.1.toNat c ↔ ∃ q a, q < m.2.length ∧ FarC m.1 m.2 q a ∧ (el m.2 q).1 ≠ 1000000001 ∧ c = a + (el m.2 q).1.toNat :=
  ⟨fun ⟨n, p, d, h, hp, hf, e⟩ => ⟨p, d, hp, ⟨hz, n, h⟩, hf, e⟩, fun ⟨q, a, hq, ⟨_, n, h⟩, hf, e⟩ => ⟨n, q, a, h, hq, hf, e⟩⟩
theorem end_on {m : Mc} (hr : faultM m = 0) (hz : 0 ≤ m.1) (c : Nat) : EndC m.2 m.1.toNat c ↔ ∃ q a b, q < m.2.length ∧ FarC m.1 m.2 q a ∧ EndC m.2 q b ∧ c = a + b := by
  constructor
  · intro h
    exact ⟨m.1.toNat, 0, c, by have := (right_parts hr).1; omega, ⟨hz, 0, .nil⟩, h, by omega⟩
  · rintro ⟨q, a, b, hq, ⟨_, n, h⟩, ⟨n', p, d, h', hp, hf, rfl⟩, rfl⟩
    exact ⟨n + n', p, a + d, h.trans h', hp, hf, by omega⟩
end Go.Proofs.Yteaafghmkkejfaa.Pl
