/- Changes of labels that came in; their copy and their comparison. -/
import Derived.Test.YtpfcljhbamnghabJ12k
import Derived.Test.YtpfcljhbamnghabMcO
import Derived.Laws.StructEq
namespace Go.Proofs.Ytpfcljhbamnghab.Wt
open Go.ChangeShapes Go.WideShapes Go.ChangeAt Go.RowKit
open Go.Proofs.Ytpfcljhbamnghab.Pl
set_option linter.unusedVariables false
set_option linter.unusedSimpArgs false
theorem infoChange : (Try.prog.info? 43).map (fun i => (i.zero, i.size, i.bytes)) = some (some (.agg #[.int .i64 0, .int .i64 0]), 2, 16) := by kernel_rfl
theorem open_changes {H : Type} {enc : TypeId × Value → H} {w : World} {base : Nat} {sp : Nat → Bool} {held : Bool} {fuel : Nat} {v : Value} {x : DataW H × List MemPlace}
    (h : DataW.trod enc Try.prog w base sp held fuel 44 [v] = some x) (hf : Fits Try.prog 44 x.1) :
    ∃ l : List Ch, Chs w v l ∧ okC l := by
  rcases open_rows Try.underlying44 Try.underlying43 (by kernel_rfl) (by kernel_rfl) h with ⟨hv, hx⟩ | ⟨a, len, cap, n, V, Y, rest, hv, hm, hl, hx, hc⟩
  · exact ⟨[], .inl ⟨hv, rfl⟩, by simp [okC]⟩
  · have key : ∀ i, i < len → ∃ y : Ch, w.cell? (a.add (i * 2)) = some (.int .i64 y.1) ∧ w.cell? (a.add (i * 2 + 1)) = some (.int .i64 y.2) := by
      intro i hi
      obtain ⟨c0, t0⟩ := hc i hi 0 _ rfl
      obtain ⟨c1, t1⟩ := hc i hi 1 _ rfl
      obtain ⟨q0, e0, _, w0⟩ := DataW.trod_int Try.underlying3 t0
      obtain ⟨q1, e1, _, w1⟩ := DataW.trod_int Try.underlying3 t1
      simp at e0 e1
      rw [e0] at c0; rw [e1] at c1
      exact ⟨(q0, q1), c0, c1⟩
    obtain ⟨y, hy⟩ := Go.Deep.choose_lt key
    have hlen : ((List.range len).map y).length = len := by simp
    refine ⟨(List.range len).map y, .inr ⟨a, cap, by rw [hlen]; exact hv, ?_⟩, ?_⟩
    · intro j hj i u hu
      rw [hlen] at hj
      rw [el_range_map y hj] at hu
      obtain ⟨g0, g1⟩ := hy j hj
      match i, hu with
      | 0, hu => simp [encC] at hu; subst hu; exact g0
      | 1, hu => simp [encC] at hu; subst hu; exact g1
      | i + 2, hu => simp [encC] at hu
    · unfold okC
      rw [hlen]
      rw [hx] at hf
      have := hf.len Try.underlying44
      have hby : Try.prog.bytesOf 43 = 16 := by kernel_rfl
      rw [hby] at this
      simpa [reachBytes] using this
end Go.Proofs.Ytpfcljhbamnghab.Wt
