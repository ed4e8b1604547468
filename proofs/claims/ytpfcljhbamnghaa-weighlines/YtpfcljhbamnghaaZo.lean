/- weigh.labelAt: the label at a place of a word. -/
import Derived.Test.YtpfcljhbamnghaaNn
import Derived.Test.YtpfcljhbamnghaaPlainWm
import Derived.Test.YtpfcljhbamnghaaRn
namespace Go.Proofs.Ytpfcljhbamnghaa.Wt
open Go.ChangeShapes Go.WideShapes Go.ChangeAt Go.RowKit
open Go.Proofs.Ytpfcljhbamnghaa.Pl
set_option linter.unusedVariables false
set_option linter.unusedSimpArgs false
set_option maxRecDepth 100000 in
theorem labelAt_any (v : Value) (l : List Int) (i : Nat) (w : World) (h : Nums w v l) (hl : l.length ≤ 12) (hi : i ≤ 100) :
    Calls Try.prog 29 #[v, .int .i64 (i : Int)] w fun e w' => e = .returned (.int .i64 (atW l i)) ∧ w = w' := by
  obtain ⟨a, cap, rfl, hc⟩ := h.get
  unfold atW
  by_cases hlt : i < l.length
  · obtain ⟨b, off, rfl, hb, g0⟩ := hc i hlt
    rw [if_pos hlt]
    generalize el l i = y at *
    have h1 : ¬ (l.length : Int) ≤ (i : Int) := by omega
    have h2 : (0 : Int) ≤ (i : Int) := by omega
    have h3 : (i : Int) < (l.length : Int) := by omega
    clear h hc
    generalize l.length = n at *
    go_enter Try.func29, Try.ntmps29
    go_wp2
    go_ret
    exact ⟨rfl, rfl⟩
  · rw [if_neg hlt]
    have h1 : (l.length : Int) ≤ (i : Int) := by omega
    clear h hc
    generalize l.length = n at *
    go_enter Try.func29, Try.ntmps29
    go_wp2
    go_ret
    exact ⟨rfl, rfl⟩
end Go.Proofs.Ytpfcljhbamnghaa.Wt
