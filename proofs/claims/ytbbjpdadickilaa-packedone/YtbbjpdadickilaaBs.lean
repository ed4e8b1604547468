/- A byte of the call's own is changed. -/
import Derived.Test.YtbbjpdadickilaaBq
import Derived.Laws.BitsLemmas
namespace Go.Proofs.Ytbbjpdadickilaa.Pl
theorem xor_byte {x d : Int} (hx : 0 ≤ x ∧ x < 256) (hd : 0 < d ∧ d < 256) : (0 ≤ bits .xor .u8 x d ∧ bits .xor .u8 x d < 256) ∧ bits .xor .u8 x d ≠ x := by
  obtain ⟨a, rfl⟩ := Int.eq_ofNat_of_zero_le hx.1
  obtain ⟨b, rfl⟩ := Int.eq_ofNat_of_zero_le (show 0 ≤ d by omega)
  have ha : a % 2 ^ IntKind.u8.bits = a := Nat.mod_eq_of_lt (by show a < 256; omega)
  have hb : b % 2 ^ IntKind.u8.bits = b := Nat.mod_eq_of_lt (by show b < 256; omega)
  have hlt : a ^^^ b < 2 ^ 8 := Nat.xor_lt_two_pow (by omega) (by omega)
  have e : bits .xor .u8 (a : Int) (b : Int) = ((a ^^^ b : Nat) : Int) := by
    simp only [bits, BitVec.ofInt_natCast, BitVec.toNat_xor, BitVec.toNat_ofNat, ha, hb]
    exact wraps_u8 _ (Int.natCast_nonneg _) (by exact_mod_cast hlt)
  rw [e]
  refine ⟨by omega, fun h => ?_⟩
  have h1 : a ^^^ b = a := by omega
  have h2 : a ^^^ (a ^^^ b) = 0 := by rw [h1, Nat.xor_self]
  rw [← Nat.xor_assoc, Nat.xor_self, Nat.zero_xor] at h2
  omega
end Go.Proofs.Ytbbjpdadickilaa.Pl
namespace Go.Proofs.Ytbbjpdadickilaa.Wt
open Go.ChangeShapes Go.WideShapes Go.ChangeAt Go.RowKit
open Go.Proofs.Ytbbjpdadickilaa.Pl
set_option linter.unusedVariables false
set_option linter.unusedSimpArgs false
/-- A byte of a row of the call's own: where it lies, and how it is changed. -/
theorem OwnBys.put {w : World} {base : Nat} {v : Value} {l : List Int} (h : OwnBys w base v l) {q : Nat} (hq : q < l.length) :
    ∃ g c, v = .slice (some ⟨g, 0, none⟩) l.length c ∧ base ≤ g ∧ g < w.heap.size ∧ l.length ≤ c ∧ w.cell? ⟨g, q, none⟩ = some (.int .u8 (el l q)) ∧ w.frozen? ⟨g, q, none⟩ = false ∧ ∀ y, OwnBys (w.setCell ⟨g, q, none⟩ (.int .u8 y)) base v (l.set q y) := by
  rcases h.2 with ⟨_, h0⟩ | ⟨g, c, cur, hv, hbg, hg, hnc, hcm, hcs, htake⟩
  · omega
  · refine ⟨g, c, hv, hbg, lt_of_block hg, hnc, ?_, Blk.fz (t := 5) hg q, fun y => ?_⟩
    · have hvb : v.ownBlock = some g := by rw [hv]; rfl
      have := h.cells hvb q (.int .u8 (el l q)) (by rw [flat_u8]; simp [hq, el])
      rw [Addr.add_lit, Nat.zero_add] at this
      exact this
    · have h1 : w.ownsRow base 5 1 (.slice (some ⟨g, 0, none⟩) l.length c) l.length (l.flatMap encU1) := by rw [← hv]; exact h
      have hs := (h1.stored q (.int .u8 y)).1
      unfold OwnBys
      rw [List.length_set, hv, flat_u8, List.map_set, ← flat_u8]
      exact hs
end Go.Proofs.Ytbbjpdadickilaa.Wt
