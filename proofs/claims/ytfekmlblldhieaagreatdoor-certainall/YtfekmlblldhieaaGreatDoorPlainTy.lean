/- Small machines from behind. -/
import Derived.Test.YtfekmlblldhieaaGreatDoorJ17a
namespace Go.Proofs.YtfekmlblldhieaaGreatDoor.Pl
set_option linter.unusedVariables false
theorem made_fourG (r : Int × List (Int × Bool × List Ar)) (n : Nat) (full : Bool) {q : Nat} (hq : q < (madeM r n full).2.length) : (el (madeM r n full).2 q).2.length ≤ 4 := by
  unfold madeM at hq ⊢
  simp only [statesM_length] at hq ⊢
  unfold statesM
  rw [el_range_map _ hq]
  split
  · simp
  · simp [Pl.stM]; omega
/-- What is answered of such a machine from behind. -/
theorem rev_small {m : Mc} (hf : faultM m = 0) (h8 : m.2.length ≤ 8) (h4 : ∀ q, q < m.2.length → (el m.2 q).2.length ≤ 4) : ratM m (-1, []) (revM m) = revM m ∧ ratE m (-1, []) (revM m) = 0 ∧ faultM (revM m) = 0 := by
  have ha : arcN m.2 ≤ 32 := by
    have := arcN_each (l := m.2) (k := 4) (fun s hs => by obtain ⟨q, hq, rfl⟩ := mem_el hs; exact h4 q hq)
    omega
  have hb : arcN (revM m).2 ≤ 400 := by
    have h1 := arcN_each (revM_each m)
    rw [revM_len] at h1
    have h2 : (m.2.length + 1) * (m.2.length + arcN m.2) ≤ 9 * 40 := Nat.mul_le_mul (by omega) (by omega)
    omega
  have hs : sizeB (revM m) = true := by simp only [sizeB, revM_len, Bool.and_eq_true, decide_eq_true_eq]; omega
  refine ⟨?_, ?_, revM_right hf hs⟩
  · unfold ratM fitM; rw [if_neg (by simp [hf]), if_neg (by decide), if_pos hs]
  · unfold ratE fitE; rw [if_neg (by simp [hf]), if_neg (by decide), if_pos hs]
end Go.Proofs.YtfekmlblldhieaaGreatDoor.Pl
