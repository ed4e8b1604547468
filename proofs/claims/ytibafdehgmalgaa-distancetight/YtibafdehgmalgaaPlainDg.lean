/- How far it is: what is reached is what has a cost (no program in sight). -/
import Derived.Test.YtibafdehgmalgaaPlainDf
import Derived.Test.YtibafdehgmalgaaJ13k
namespace Go.Proofs.Ytibafdehgmalgaa.Pl
set_option linter.unusedVariables false
set_option linter.unusedSimpArgs false
theorem ahead_far {m : Mc} (hr : faultM m = 0) (hz : 0 ≤ m.1) {bs : List Bool} (h : Least (AheadC m.1 m.2) m.2.length bs) {q : Nat} (hq : q < m.2.length) : el bs q = true ↔ ∃ c, FarC m.1 m.2 q c := by
  constructor
  · intro hb
    refine h.2.2 (fun q => ∃ c, FarC m.1 m.2 q c) ⟨fun q _ e => ⟨0, hz, 0, ?_⟩, fun q hq ⟨c, _, n, hn⟩ a ha => ?_⟩ q hq hb
    · rw [show m.1.toNat = q by omega]; exact .nil
    · obtain ⟨t, ht, _⟩ := right_ToIn hr q hq a ha
      exact ⟨_, hz, n + 1, hn.step ⟨a, ha, by rw [ht, Int.toNat_natCast], rfl⟩⟩
  · rintro ⟨c, _, n, hn⟩
    have key : ∀ {n q c : Nat}, Run (ArcE m.2) m.1.toNat n q c → q < m.2.length → el bs q = true := by
      intro n q c hn
      induction hn with
      | nil => intro hl; exact h.2.1.1 _ hl (by omega)
      | step h' e ih =>
        intro _
        have hk := arcE_in e
        obtain ⟨a, ha, ht, _⟩ := e
        have := h.2.1.2 _ hk (ih hk) a ha
        rw [ht, Int.toNat_natCast] at this
        exact this
    exact key hn hq
theorem ahead_cst {m : Mc} (hr : faultM m = 0) (hz : 0 ≤ m.1) {bs : List Bool} (h : Least (AheadC m.1 m.2) m.2.length bs) {q : Nat} (hq : q < m.2.length) {n : Int} (hn : CstIs (FarC m.1 m.2 q) n) : el bs q = (n != 1000000001) := by
  rw [Bool.eq_iff_iff, ahead_far hr hz h hq]
  constructor
  · rintro ⟨c, hc⟩
    simpa using (hn.low hc).1
  · intro hne
    exact ⟨_, (hn.inf (by simpa using hne)).1⟩
end Go.Proofs.Ytibafdehgmalgaa.Pl
