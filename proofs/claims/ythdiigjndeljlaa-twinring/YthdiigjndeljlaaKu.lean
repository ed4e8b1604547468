/- What the keeping statements' timesTwin answers, where Times refuses nothing. -/
import Derived.Test.YthdiigjndeljlaaTt
namespace Go.Proofs.Ythdiigjndeljlaa.Wt
open Go.ChangeShapes Go.WideShapes Go.ChangeAt Go.RowKit
open Go.Proofs.Ythdiigjndeljlaa.Pl
set_option linter.unusedVariables false

theorem timesTwin_of (a b c d p q : Int) (w : World) (h : timesT a b c d = (p, q, 0)) :
    Calls Try.prog 19 #[.agg #[.int .i64 a, .int .i64 b], .agg #[.int .i64 c, .int .i64 d]] w fun e w' => e = .returned (.agg #[.int .i64 p, .int .i64 q]) ∧ Below w.heap.size w w' := by
  have HT : Hid (timesT a b c d = (p, q, 0)) := h
  clear h
  go_enter Try.func19, Try.ntmps19
  go_wp2_with (first | (go_at_call 13; refine (timesT_of _ _ _ _ _ _ _ _ HT.out).mono ?_; rintro e w1 ⟨rfl, hb⟩; (have sw1_0 : w.heap.size + 1 + 1 < w1.heap.size := below_lt hb (by go_size); have cw1_0 : w1.cell? ⟨w.heap.size + 1 + 1, 0, none⟩ = some (.int .i64 0) := below_at hb (show w.heap.size + 1 + 1 < _ by go_size) (by first | go_cell | simp [*]); have cw1_1 : w1.cell? ⟨w.heap.size + 1 + 1, 1, none⟩ = some (.int .i64 0) := below_at hb (show w.heap.size + 1 + 1 < _ by go_size) (by first | go_cell | simp [*]); have fw1_2 : w1.frozen? ⟨w.heap.size + 1 + 1, 0, none⟩ = false := below_fz hb (show w.heap.size + 1 + 1 < _ by go_size) (by first | go_cell | simp [*, go_sem]); have fw1_3 : w1.frozen? ⟨w.heap.size + 1 + 1, 1, none⟩ = false := below_fz hb (show w.heap.size + 1 + 1 < _ by go_size) (by first | go_cell | simp [*, go_sem]); have Hw1 : Hid (Below w.heap.size w w1) := Below.trans (by go_grown) (hb.mono (by go_size)); clear hb)))
  have hw1 := Hw1.out
  exact bodyPost_ret (v := .agg #[.int .i64 p, .int .i64 q]) (by simp [results, Try.results19, go_sem, *]) rfl ⟨rfl, by go_grown⟩
end Go.Proofs.Ythdiigjndeljlaa.Wt
