/- Small questions on arcs and states, by the program. -/
import Derived.Test.YtfffelgmgghldabMcQ
import Derived.Test.YtfffelgmgghldabPlainV
namespace Go.Proofs.Ytfffelgmgghldab.Wt
open Go.ChangeShapes Go.WideShapes Go.ChangeAt Go.RowKit
open Go.Proofs.Ytfffelgmgghldab.Pl
set_option linter.unusedVariables false
def accA (a : Ar) : Bool := decide (a.1 = a.2.1)
def fullA (a : Ar) : Bool := !(decide (a.1 = 0) && decide (a.2.1 = 0))
def freeA (a : Ar) : Bool := decide (a.2.2.1 = 0)
def freeS (s : St) : Bool := decide (s.1 = 0) || decide (s.1 = 1000000001)
theorem acc_ask (w : World) : AskA 19 #[] accA w := by
  refine ⟨enters_of Try.func19 (by kernel_rfl) rfl, fun a W hW => ?_⟩
  obtain ⟨a0, a1, a2, a3⟩ := a
  show Calls _ _ #[.agg #[.int .i64 a0, .int .i64 a1, .int .i64 a2, .int .i64 a3]] W _
  by_cases h : a0 = a1
  · subst h
    go_enter Try.func19, Try.ntmps19
    go_wp2
    go_ret
    exact ⟨ret_boolK (by simp [accA]), by go_grown⟩
  · have hne : (a0 == a1) = false := by simpa using h
    go_enter Try.func19, Try.ntmps19
    go_wp2
    go_ret
    exact ⟨ret_boolK (by simp [accA, h]), by go_grown⟩
theorem free_ask (w : World) : AskA 23 #[] freeA w := by
  refine ⟨enters_of Try.func23 (by kernel_rfl) rfl, fun a W hW => ?_⟩
  obtain ⟨a0, a1, a2, a3⟩ := a
  show Calls _ _ #[.agg #[.int .i64 a0, .int .i64 a1, .int .i64 a2, .int .i64 a3]] W _
  by_cases h : a2 = 0
  · subst h
    go_enter Try.func23, Try.ntmps23
    go_wp2
    go_ret
    exact ⟨ret_boolK (by simp [freeA]), by go_grown⟩
  · have hne : (a2 == 0) = false := by simpa using h
    go_enter Try.func23, Try.ntmps23
    go_wp2
    go_ret
    exact ⟨ret_boolK (by simp [freeA, h]), by go_grown⟩
theorem full_ask (w : World) : AskA 18 #[] fullA w := by
  refine ⟨enters_of Try.func18 (by kernel_rfl) rfl, fun a W hW => ?_⟩
  obtain ⟨a0, a1, a2, a3⟩ := a
  show Calls _ _ #[.agg #[.int .i64 a0, .int .i64 a1, .int .i64 a2, .int .i64 a3]] W _
  by_cases h : a0 = 0
  · subst h
    by_cases h1 : a1 = 0
    · subst h1
      go_enter Try.func18, Try.ntmps18
      go_wp2
      go_ret
      exact ⟨ret_boolK (by simp [fullA]), by go_grown⟩
    · have hne : (a1 != 0) = true := by simpa using h1
      go_enter Try.func18, Try.ntmps18
      go_wp2
      go_ret
      exact ⟨ret_boolK (by simp [fullA, h1]), by go_grown⟩
  · have hne : (a0 != 0) = true := by simpa using h
    go_enter Try.func18, Try.ntmps18
    go_wp2
    go_ret
    exact ⟨ret_boolK (by simp [fullA, h]), by go_grown⟩
theorem ends_ask (l : List St) (w : World) : AskS 24 #[] freeS l w := by
  refine ⟨enters_of Try.func24 (by kernel_rfl) rfl, fun j hj W va hW hA => ?_⟩
  generalize el l j = s at *
  obtain ⟨f, ar⟩ := s
  obtain ⟨a, cap, rfl⟩ := hA.sl
  show Calls _ _ #[.agg #[.int .i64 f, .slice a ar.length cap]] W _
  clear hA
  by_cases h : f = 0
  · subst h
    go_enter Try.func24, Try.ntmps24
    go_wp2
    go_ret
    exact ⟨ret_boolK (by simp [freeS]), by go_grown⟩
  · have hne : (f == 0) = false := by simpa using h
    by_cases h1 : f = 1000000001
    · subst h1
      go_enter Try.func24, Try.ntmps24
      go_wp2
      go_ret
      exact ⟨ret_boolK (by simp [freeS]), by go_grown⟩
    · have hne1 : (f == 1000000001) = false := by simpa using h1
      go_enter Try.func24, Try.ntmps24
      go_wp2
      go_ret
      exact ⟨ret_boolK (by simp [freeS, h, h1]), by go_grown⟩
end Go.Proofs.Ytfffelgmgghldab.Wt
