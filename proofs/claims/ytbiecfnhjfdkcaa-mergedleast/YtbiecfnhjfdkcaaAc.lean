/- slices.CompactFunc at arcs of the call's own. -/
import Derived.Test.YtbiecfnhjfdkcaaAt
import Derived.Laws.StructEq
import Derived.Lib.SliceRun
namespace Go.Proofs.Ytbiecfnhjfdkcaa.Wt
open Go.ChangeShapes Go.WideShapes Go.ChangeAt Go.RowKit
open Go.Proofs.Ytbiecfnhjfdkcaa.Pl
set_option linter.unusedVariables false
set_option linter.unusedSimpArgs false
theorem alike_any (x y : Ar) (w : World) (r : Bool) (hr : alikeB x y = r) : Calls Try.prog 41 #[.agg #[.int .i64 x.1, .int .i64 x.2.1, .int .i64 x.2.2.1, .int .i64 x.2.2.2], .agg #[.int .i64 y.1, .int .i64 y.2.1, .int .i64 y.2.2.1, .int .i64 y.2.2.2]] w fun e w' => e = .returned (.bool r) ∧ Below w.heap.size w w' := by
  subst hr
  obtain ⟨x0, x1, x2, x3⟩ := x
  obtain ⟨y0, y1, y2, y3⟩ := y
  simp only [alikeB]
  by_cases h0 : x0 = y0
  · subst h0
    by_cases h1 : x1 = y1
    · subst h1
      by_cases h3 : x3 = y3
      · subst h3
        go_enter Try.func41, Try.ntmps41
        go_wp2
        go_ret
        exact ⟨by simp, by go_grown⟩
      · have e3 : (x3 == y3) = false := by simpa using h3
        go_enter Try.func41, Try.ntmps41
        go_wp2
        go_ret
        exact ⟨by simp [h3], by go_grown⟩
    · have e1 : (x1 == y1) = false := by simpa using h1
      go_enter Try.func41, Try.ntmps41
      go_wp2
      go_ret
      exact ⟨by simp [h1], by go_grown⟩
  · have e0 : (x0 == y0) = false := by simpa using h0
    go_enter Try.func41, Try.ntmps41
    go_wp2
    go_ret
    exact ⟨by simp [h0], by go_grown⟩
/-- Cells of a block set one behind the other. -/
theorem setCells_blk {t : TypeId} {b : Nat} : ∀ (vs : List Value) (o : Nat) (w : World) (cur : Array Value), Blk w b cur t → ∃ cur', Blk (w.setCells b o vs) b cur' t ∧ cur'.size = cur.size ∧ (∀ i, i < o → cur'[i]? = cur[i]?) ∧ w.grownBy (w.setCells b o vs) (some b)
  | [], o, w, cur, h => ⟨cur, h, rfl, fun _ _ => rfl, World.grownBy.refl _ _⟩
  | v :: r, o, w, cur, h => by
    obtain ⟨cur', h1, h2, h3, h4⟩ := setCells_blk r (o + 1) (w.setCell ⟨b, o, none⟩ v) (cur.setIfInBounds o v) (h.set o v)
    refine ⟨cur', h1, by simpa using h2, fun i hi => ?_, ⟨h4.os, h4.tape, h4.output, ?_, fun k hk hne => ?_⟩⟩
    · rw [h3 i (by omega), Array.getElem?_setIfInBounds_ne (by omega)]
    · simp
    · have hk' : k < (w.setCell ⟨b, o, none⟩ v).heap.size := by simpa [World.setCell] using hk
      exact (h4.block k hk' hne).trans (Below.heap_setCell w _ _ k (by intro e; exact hne (by rw [e])))
/-- clear(s): s in a block of the call's own. -/
theorem run_clear_arcs {w : World} {b o n c : Nat} {cur : Array Value} (h : Blk w b cur 43) (hs : o + n * 4 ≤ cur.size) :
    ∃ w', (∀ ty, (Builtin.clear_ #[39] ty #[.slice (some ⟨b, o, none⟩) n c]).run Try.prog w = .ok (.tuple #[]) w') ∧ (∃ cur', Blk w' b cur' 43 ∧ cur'.size = cur.size ∧ (∀ i, i < o → cur'[i]? = cur[i]?)) ∧ w.grownBy w' (some b) := by
  have hv : ∀ w, (zeroValue 43).run Try.prog w = .ok (.agg #[.int .i64 0, .int .i64 0, .int .i64 0, .int .i64 0]) w := fun w => by kernel_rfl
  by_cases hn : n = 0
  · subst hn
    exact ⟨w, fun ty => by simp [Builtin.clear_, run_underlying Try.underlying39], ⟨cur, h, rfl, fun _ _ => rfl⟩, World.grownBy.refl _ _⟩
  · have hzl : (Builtin.zeroCells (Value.cells (.agg #[.int .i64 0, .int .i64 0, .int .i64 0, .int .i64 0])) n).toList.length = n * 4 := by
      simp [Builtin.zeroCells, Value.cells, Nat.mul_comm]
    have hst := run_storeCells_cells (P := Try.prog) b o (Builtin.zeroCells (Value.cells (.agg #[.int .i64 0, .int .i64 0, .int .i64 0, .int .i64 0])) n).toList 0 w (fun j hj => by
        rw [hzl] at hj
        unfold Blk at h
        simp [World.cell?, h]; omega) (fun j hj => h.fz _) (by
        intro v hv'
        have hm : v = .int .i64 0 := by
          simp [Builtin.zeroCells, Value.cells] at hv'
          obtain ⟨q, hq, hv'⟩ := hv'
          have h4 : q % 4 = 0 ∨ q % 4 = 1 ∨ q % 4 = 2 ∨ q % 4 = 3 := by omega
          rcases h4 with h | h | h | h <;> simp [h] at hv' <;> exact hv'.symm
        rw [hm]; rfl)
    simp only [Nat.add_zero] at hst
    obtain ⟨cur', h1, h2, h3, h4⟩ := setCells_blk (Builtin.zeroCells (Value.cells (.agg #[.int .i64 0, .int .i64 0, .int .i64 0, .int .i64 0])) n).toList o w cur h
    obtain ⟨m, rfl⟩ : ∃ m, n = m + 1 := ⟨n - 1, by omega⟩
    exact ⟨_, fun ty => by simp only [Builtin.clear_]; simp [run_underlying Try.underlying39, hv, hst], ⟨cur', h1, h2, h3⟩, h4⟩
end Go.Proofs.Ytbiecfnhjfdkcaa.Wt
