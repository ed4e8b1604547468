/- The program: a heap of numbers in memory, and its five methods. -/
import Derived.Test.YtbamaolknpffgaaSa
import Derived.Test.YtbamaolknpffgaaPlainHp
import Derived.Test.YtbamaolknpffgaaRg
import Derived.Deep.QuietTactic
import Derived.BigQuiet
import Derived.RegionTactic
import Derived.BigRegion
namespace Go.Proofs.Ytbamaolknpffgaa.Wt
open Go.ChangeShapes Go.WideShapes Go.ChangeAt Go.RowKit
open Go.Proofs.Ytbamaolknpffgaa.Pl
set_option linter.unusedVariables false
set_option linter.unusedSimpArgs false
/-! How a method is found. -/
theorem load_ready (B : Nat) (w : World) {v : Value} (h : w.cell? ⟨B, 0, none⟩ = some v) : (loadVar 59 ⟨B, 0, none⟩).run Try.prog w = .ok v w := by
  simp [loadVar, isAgg, underlying, Try.underlying59, h, Result.andThen]
theorem meth_push (B : Nat) (w : World) : Sem.run Try.prog (method 196 61 (.pointer (some ⟨B, 0, none⟩)) "Push") w = .ok (69, .pointer (some ⟨B, 0, none⟩)) w := by kernel_rfl
theorem meth_pop (B : Nat) (w : World) : Sem.run Try.prog (method 196 61 (.pointer (some ⟨B, 0, none⟩)) "Pop") w = .ok (68, .pointer (some ⟨B, 0, none⟩)) w := by kernel_rfl
theorem meth_len0 (B : Nat) (w : World) : Sem.run Try.prog (method 196 61 (.pointer (some ⟨B, 0, none⟩)) "Len") w = Sem.run Try.prog (do let v ← loadVar 59 ⟨B, 0, none⟩; pure (34, v)) w := by kernel_rfl
theorem meth_less0 (B : Nat) (w : World) : Sem.run Try.prog (method 196 61 (.pointer (some ⟨B, 0, none⟩)) "Less") w = Sem.run Try.prog (do let v ← loadVar 59 ⟨B, 0, none⟩; pure (66, v)) w := by kernel_rfl
theorem meth_swap0 (B : Nat) (w : World) : Sem.run Try.prog (method 196 61 (.pointer (some ⟨B, 0, none⟩)) "Swap") w = Sem.run Try.prog (do let v ← loadVar 59 ⟨B, 0, none⟩; pure (67, v)) w := by kernel_rfl
theorem meth_len {B : Nat} {w : World} {v : Value} (h : w.cell? ⟨B, 0, none⟩ = some v) : Sem.run Try.prog (method 196 61 (.pointer (some ⟨B, 0, none⟩)) "Len") w = .ok (34, v) w := by
  rw [meth_len0]; simp [load_ready B w h, Sem.run_bind]
theorem meth_less {B : Nat} {w : World} {v : Value} (h : w.cell? ⟨B, 0, none⟩ = some v) : Sem.run Try.prog (method 196 61 (.pointer (some ⟨B, 0, none⟩)) "Less") w = .ok (66, v) w := by
  rw [meth_less0]; simp [load_ready B w h, Sem.run_bind]
theorem meth_swap {B : Nat} {w : World} {v : Value} (h : w.cell? ⟨B, 0, none⟩ = some v) : Sem.run Try.prog (method 196 61 (.pointer (some ⟨B, 0, none⟩)) "Swap") w = .ok (67, v) w := by
  rw [meth_swap0]; simp [load_ready B w h, Sem.run_bind]
/-! A store into a row of the call's own. -/
theorem flatI (l : List Int) : l.flatMap encI1 = l.map (Value.int .i64) := by
  induction l with
  | nil => rfl
  | cons x l ih => rw [List.flatMap_cons, ih]; rfl
theorem own_set {w : World} {base : Nat} {e : TypeId} {g n cap j : Nat} {ws : List Int} (h : w.ownsRow base e 1 (.slice (some ⟨g, 0, none⟩) n cap) n (ws.flatMap encI1)) (hj : j < n) (x : Int) :
    (w.setCell ⟨g, j, none⟩ (.int .i64 x)).ownsRow base e 1 (.slice (some ⟨g, 0, none⟩) n cap) n ((ws.set j x).flatMap encI1) := by
  have hlen := h.1
  rw [flat_length encI1_len] at hlen
  rcases h.2 with ⟨hv, hn0⟩ | ⟨g', cap', cur, hv, hbg, hg, hnc, hcm, hcs, htake⟩
  · omega
  · simp only [Value.slice.injEq, Option.some.injEq, Addr.mk.injEq, and_true, true_and] at hv
    obtain ⟨rfl, rfl⟩ := hv
    refine ⟨by rw [flat_length encI1_len, List.length_set]; exact hlen, .inr ⟨g, cap, cur.setIfInBounds j (.int .i64 x), rfl, hbg, ?_, hnc, hcm, by simpa using hcs, ?_⟩⟩
    · have := Blk.set (w := w) (b := g) (cs := cur) (t := e) hg j (.int .i64 x)
      exact this
    · rw [flatI] at htake ⊢
      rw [Array.toList_setIfInBounds, List.take_set, htake, List.map_set]
theorem own_fz {w : World} {base : Nat} {e : TypeId} {g n cap : Nat} {ws : List Value} (h : w.ownsRow base e 1 (.slice (some ⟨g, 0, none⟩) n cap) n ws) (j : Nat) : w.frozen? ⟨g, j, none⟩ = false := by
  rcases h.2 with ⟨hv, hn0⟩ | ⟨g', cap', cur, hv, hbg, hg, _⟩
  · simp at hv
  · simp only [Value.slice.injEq, Option.some.injEq, Addr.mk.injEq, and_true, true_and] at hv
    obtain ⟨rfl, rfl⟩ := hv
    exact Blk.fz (t := e) hg j
theorem own_some {w : World} {base : Nat} {e : TypeId} {v : Value} {n : Nat} {ws : List Value} (h : w.ownsRow base e 1 v n ws) (hn : 0 < n) : ∃ g cap, v = .slice (some ⟨g, 0, none⟩) n cap ∧ g < w.heap.size ∧ n ≤ cap ∧ base ≤ g := by
  rcases h.2 with ⟨hv, hn0⟩ | ⟨g, cap, cur, rfl, hbg, hg, hnc, _⟩
  · omega
  · exact ⟨g, cap, rfl, Blk.lt (t := e) hg, hnc, hbg⟩
/-! The methods. -/
set_option maxRecDepth 100000 in
theorem rLen_any (a : Option Addr) (n cap : Nat) (w : World) :
    Calls Try.prog 34 #[.slice a n cap] w fun e w' => e = .returned (.int .i64 (n : Int)) ∧ w' = w := by
  go_enter Try.func34, Try.ntmps34
  go_wp2
  go_ret
  exact ⟨rfl, rfl⟩
set_option maxRecDepth 100000 in
set_option maxHeartbeats 2000000 in
theorem rLess_any (g n cap : Nat) (w : World) (x y : Int) (i j : Nat) (hi : i < n) (hj : j < n) (hn : n ≤ 1000) (ci : w.cell? ⟨g, i, none⟩ = some (.int .i64 x)) (cj : w.cell? ⟨g, j, none⟩ = some (.int .i64 y)) :
    Calls Try.prog 66 #[.slice (some ⟨g, 0, none⟩) n cap, .int .i64 (i : Int), .int .i64 (j : Int)] w fun e w' => e = .returned (.bool (decide (x < y))) ∧ ∃ q, w' = w.drewN q := by
  go_enter Try.func66, Try.ntmps66
  go_wp2
  go_quiet (fail)
  go_wp2
  go_ret
  exact ⟨rfl, _, rfl⟩
set_option maxRecDepth 100000 in
set_option maxHeartbeats 2000000 in
theorem rSwap_any (g n cap : Nat) (w : World) (x y : Int) (i j : Nat) (hi : i < n) (hj : j < n) (hn : n ≤ 1000) (ci : w.cell? ⟨g, i, none⟩ = some (.int .i64 x)) (cj : w.cell? ⟨g, j, none⟩ = some (.int .i64 y)) (fi : w.frozen? ⟨g, i, none⟩ = false) (fj : w.frozen? ⟨g, j, none⟩ = false) :
    Calls Try.prog 67 #[.slice (some ⟨g, 0, none⟩) n cap, .int .i64 (i : Int), .int .i64 (j : Int)] w fun e w' => e = .returned (.tuple #[]) ∧ ∃ q, w' = ((w.setCell ⟨g, i, none⟩ (.int .i64 y)).setCell ⟨g, j, none⟩ (.int .i64 x)).drewN q := by
  obtain ⟨v', hy'⟩ := cell?_setCell_some (w := w) (p := ⟨g, i, none⟩) (x := .int .i64 y) (q := ⟨g, j, none⟩) cj
  go_enter Try.func67, Try.ntmps67
  go_wp2
  go_region
  all_goals (try go_wp2)
  all_goals go_end0
  all_goals exact ⟨rfl, 1, rfl⟩
end Go.Proofs.Ytbamaolknpffgaa.Wt
