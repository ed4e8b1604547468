/- All that is told of a trimmed machine (no program in sight). -/
import Derived.Test.YtfkiiedbcjbkiaaPlainZc
namespace Go.Proofs.Ytfkiiedbcjbkiaa.Pl
theorem okRight {m : Mc} (h : faultM m = 0) : okM m := by
  have h1 := right_size (z := m.1) (l := m.2) h
  refine ⟨by omega, fun j hj => ?_⟩
  have h2 := arcN_take hj
  have h3 : arcN (m.2.take (j + 1)) ≤ arcN m.2 := by
    conv => rhs; rw [← List.take_append_drop (j + 1) m.2, arcN_append]
    omega
  omega
theorem trimmed_facts {z : Int} {l : List St} {aa bs : List Bool} (hf : faultM (z, l) = 0) (hA : Least (AheadC z l) l.length aa) (hB : Least (BackC l) l.length bs) :
    ∃ (tz : Int) (tl : List St), trimM z l (keptL aa bs l.length) = (tz, tl) ∧ faultM (tz, tl) = 0 ∧ (∀ a, Least (AheadC tz tl) tl.length a → a = List.replicate tl.length true) ∧ (∀ b, Least (BackC tl) tl.length b → b = List.replicate tl.length true) ∧
      (∀ a b, Least (AheadC tz tl) tl.length a → Least (BackC tl) tl.length b → trimM tz tl (keptL a b tl.length) = (tz, tl)) ∧ (tz < 0 ↔ tl.length = 0) ∧ tl.length ≤ l.length := by
  have hl : ((keptL aa bs l.length).map (trimS l (keptL aa bs l.length))).length = (keptL aa bs l.length).length := List.length_map _
  have h1 := trim_all_ahead hf hA hB
  have h2 := trim_all_back hf hA hB
  have h3 := trim_fault (aa := aa) (bs := bs) hf
  have h4 := trim_start hA hB
  rw [← hl] at h1 h2 h4
  refine ⟨_, _, rfl, h3, fun a ha => ha.one h1, fun b hb => hb.one h2, fun a b ha hb => ?_, h4, by rw [hl]; exact keptL_le _ _ _⟩
  rw [ha.one h1, hb.one h2]
  exact trim_all h3
end Go.Proofs.Ytfkiiedbcjbkiaa.Pl
