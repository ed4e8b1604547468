/- What a machine has: core.Count, and the reference's counts. -/
import Derived.Test.YtjpfpdbhdcopbaaJ14b
import Derived.Test.YtjpfpdbhdcopbaaRg
namespace Go.Proofs.Ytjpfpdbhdcopbaa.Wt
open Go.ChangeShapes Go.WideShapes Go.ChangeAt Go.RowKit
open Go.Proofs.Ytjpfpdbhdcopbaa.Pl
set_option linter.unusedVariables false
set_option linter.unusedSimpArgs false
/-- Behind a call that was made with two boxes laid. -/
theorem boxed2 {w w1 : World} {c0 c1 : Array Value} {t0 t1 : TypeId} {n : Nat} (hb : Below n ((w.alloc (.cells c0 t0)).alloc (.cells c1 t1)) w1) (hn : n = w.heap.size + 2) : w.heap.size + 2 ≤ w1.heap.size ∧ Blk w1 w.heap.size c0 t0 ∧ Blk w1 (w.heap.size + 1) c1 t1 ∧ Below w.heap.size w w1 := by
  subst hn
  have h := hb.size
  simp only [World.size_alloc] at h
  have k1 := Blk.made (w.alloc (.cells c0 t0)) c1 t1
  simp only [World.size_alloc] at k1
  exact ⟨h, ((Blk.made w c0 t0).alloc _).below hb (by omega), k1.below hb (by omega), (((Below.refl _ _).alloc (Nat.le_refl _) _).alloc (by simp) _).trans (hb.mono (by omega))⟩
theorem below_undrew {B : Nat} {w w' : World} (h : Below B w.drew w') : Below B w w' := ⟨h.os, h.tape, h.output, h.size, h.block⟩
def HeldN (B : Nat) (z : Int) (v : Value) (w : World) : Prop := w.cell? ⟨B, 0, none⟩ = some (.int .i64 z) ∧ w.cell? ⟨B, 1, none⟩ = some v
end Go.Proofs.Ytjpfpdbhdcopbaa.Wt
