/- A slice of names that came in, read as a list. -/
import Derived.Test.YtljpbkkofalinaaDoorNm
import Derived.Deep.SlicePairs
namespace Go.Proofs.YtljpbkkofalinaaDoor.Wt
open Go.ChangeShapes Go.WideShapes Go.ChangeAt Go.RowKit
open Go.Proofs.YtljpbkkofalinaaDoor.Pl
set_option linter.unusedVariables false
def strOf : Value → ByteArray | .string s => s | _ => ByteArray.empty
theorem open_names {H : Type} {enc : TypeId × Value → H} {w : World} {base : Nat} {sp : Nat → Bool} {held : Bool} {fuel : Nat} {v : Value} {x : DataW H × List MemPlace}
    (h : DataW.trod enc Tryd.prog w base sp held fuel 22 [v] = some x) :
    ∃ ns : List Nm, Nms w v ns ∧ (∀ p ∈ ns, p.1.size ≤ maxLen ∧ (Lit.int .i64 p.2).wf = true) ∧ ((ns = [] ∧ x.1 = .nil) ∨ ∃ xs ys, x.1 = .slice xs ys ∧ xs.length = ns.length) := by
  rcases Go.Deep.open_slice_pairs Tryd.underlying22 Tryd.underlying36 (by kernel_rfl) rfl rfl (by kernel_rfl) (by kernel_rfl) h with ⟨hcs, hx⟩ | ⟨a, len, cap, m, n, V0, V1, D0, D1, P0, P1, hcs, hb, hl, hm, hmm, hx, hc⟩
  · simp at hcs
    exact ⟨[], .inl ⟨hcs, rfl⟩, by simp, .inl ⟨rfl, by rw [hx]⟩⟩
  · simp at hcs
    have hlm : len ≤ m := by rw [hmm]; split <;> omega
    have key : ∀ i, i < len → V0 i = .string (strOf (V0 i)) ∧ (strOf (V0 i)).size ≤ maxLen ∧ V1 i = .int .i64 (intOf (V1 i)) ∧ (Lit.int .i64 (intOf (V1 i))).wf = true := by
      intro i hi
      obtain ⟨_, _, h0, h1⟩ := hc i (by omega)
      obtain ⟨s, e0, _, hs⟩ := DataW.trod_string Tryd.underlying9 h0
      obtain ⟨q, e1, _, hq⟩ := DataW.trod_int Tryd.underlying3 h1
      simp at e0 e1
      rw [e0, e1]
      exact ⟨rfl, hs, rfl, hq⟩
    refine ⟨(List.range len).map fun i => (strOf (V0 i), intOf (V1 i)), .inr ⟨a, cap, by simpa using hcs, ?_⟩, ?_, .inr ⟨_, _, congrArg Prod.fst hx, by simp⟩⟩
    · intro j hj
      have hj' : j < len := by simpa using hj
      obtain ⟨c0, c1, _, _⟩ := hc j (by omega)
      obtain ⟨k0, _, k1, _⟩ := key j hj'
      rw [k0] at c0
      rw [k1] at c1
      rw [c0, c1]
      simp [nm, hj']
    · intro p hp
      simp at hp
      obtain ⟨i, hi, rfl⟩ := hp
      obtain ⟨_, k0, _, k1⟩ := key i hi
      exact ⟨k0, k1⟩
end Go.Proofs.YtljpbkkofalinaaDoor.Wt
