/- What a machine is like, by the reference: the small functions and plain facts. -/
import Derived.Test.YtfekmlblldhieaaDoorJ17C
import Derived.Test.YtfekmlblldhieaaDoorMcR
import Derived.Test.YtfekmlblldhieaaDoorJ17K
namespace Go.Proofs.YtfekmlblldhieaaDoor.Wt
open Go.ChangeShapes Go.WideShapes Go.ChangeAt Go.RowKit
open Go.Proofs.YtfekmlblldhieaaDoor.Pl
set_option linter.unusedVariables false
theorem refEmpty (a0 a1 a2 a3 : Int) (w : World) (r : Bool) (hr : fullA (a0, a1, a2, a3) = r) : Calls Tryd.prog 43 #[.agg #[.int .i64 a0, .int .i64 a1, .int .i64 a2, .int .i64 a3]] w fun e w' => e = .returned (.bool (!r)) ∧ Below w.heap.size w w' := by
  subst hr
  by_cases h : a0 = 0
  · subst h
    by_cases h1 : a1 = 0
    · subst h1
      go_enter Tryd.func43, Tryd.ntmps43
      go_wp2
      go_ret
      exact ⟨ret_boolK (by simp [fullA]), by go_grown⟩
    · have hne : (a1 == 0) = false := by simpa using h1
      go_enter Tryd.func43, Tryd.ntmps43
      go_wp2
      go_ret
      exact ⟨ret_boolK (by simp [fullA, h1]), by go_grown⟩
  · have hne : (a0 == 0) = false := by simpa using h
    go_enter Tryd.func43, Tryd.ntmps43
    go_wp2
    go_ret
    exact ⟨ret_boolK (by simp [fullA, h]), by go_grown⟩
def freeW (a : Ar) : Bool := !decide (0 < a.2.2.1)
def rowC (l : List Ar) (k j : Nat) : Bool := (List.range j).all fun t => !pairB (el l k) (el l t)
def rowS (l : List Ar) (k j : Nat) : Bool := (List.range j).all fun t => !aheadB (el l k) (el l t)
def onceTo (l : List Ar) (k : Nat) : Bool := (List.range k).all fun t => rowC l t t
def ordTo (l : List Ar) (k : Nat) : Bool := (List.range k).all fun t => rowS l t t
theorem rowC_succ (l : List Ar) (k j : Nat) : rowC l k (j + 1) = (rowC l k j && !pairB (el l k) (el l j)) := by simp [rowC, List.range_succ, List.all_append]
theorem rowS_succ (l : List Ar) (k j : Nat) : rowS l k (j + 1) = (rowS l k j && !aheadB (el l k) (el l j)) := by simp [rowS, List.range_succ, List.all_append]
theorem onceTo_succ (l : List Ar) (k : Nat) : onceTo l (k + 1) = (onceTo l k && rowC l k k) := by simp [onceTo, List.range_succ, List.all_append]
theorem ordTo_succ (l : List Ar) (k : Nat) : ordTo l (k + 1) = (ordTo l k && rowS l k k) := by simp [ordTo, List.range_succ, List.all_append]
theorem onceTo_all (l : List Ar) : onceTo l l.length = onceB l := rfl
theorem ordTo_all (l : List Ar) : ordTo l l.length = ordB l := rfl
/-- The flags of the first i states. -/
def fA (l : List St) (i : Nat) : Bool := (l.take i).all fun s => s.2.all accA
def fF (l : List St) (i : Nat) : Bool := (l.take i).all fun s => s.2.all fullA
def fC (l : List St) (i : Nat) : Bool := (l.take i).all fun s => s.2.all fullA && onceB s.2
def fS (l : List St) (i : Nat) : Bool := (l.take i).all fun s => ordB s.2
def fP (l : List St) (i : Nat) : Bool := (l.take i).all fun s => freeS s && s.2.all freeW
theorem flags_same {z : Int} {l : List St} (h : faultM (z, l) = 0) : fA l l.length = l.all (fun s => s.2.all accA) ∧ fF l l.length = l.all (fun s => s.2.all fullA) ∧ fC l l.length = (l.all (fun s => s.2.all fullA) && l.all (fun s => onceB s.2)) ∧
    fS l l.length = l.all (fun s => sortB s.2) ∧ fP l l.length = (l.all (fun s => s.2.all freeA) && l.all freeS) := by
  unfold fA fF fC fS fP
  rw [List.take_length]
  refine ⟨rfl, rfl, ?_, ?_, ?_⟩
  · clear h
    induction l with
    | nil => rfl
    | cons s l ih =>
      simp only [List.all_cons, ih]
      cases s.2.all fullA <;> cases onceB s.2 <;> cases l.all (fun s => s.2.all fullA) <;> cases l.all (fun s => onceB s.2) <;> rfl
  · have e : (fun s : St => ordB s.2) = fun s => sortB s.2 := funext fun s => ordB_sortB s.2
    rw [e]
  · have hs : ∀ s ∈ l, s.2.all freeW = s.2.all freeA := fun s hs => by
      obtain ⟨j, hj, rfl⟩ := mem_el hs
      have h1 := (right_st h hj).2
      have h2 : ∀ a ∈ (el l j).2, freeW a = freeA a := fun a ha => by
        have h3 := List.all_eq_true.1 h1 a ha
        simp only [arcB, inB, Bool.and_eq_true, decide_eq_true_eq] at h3
        have h4 := h3.1.2.1
        unfold freeW freeA
        by_cases e : a.2.2.1 = 0
        · simp [e]
        · have : 0 < a.2.2.1 := by omega
          simp [e, this]
      rw [Bool.eq_iff_iff, List.all_eq_true, List.all_eq_true]
      exact ⟨fun g a ha => by rw [← h2 a ha]; exact g a ha, fun g a ha => by rw [h2 a ha]; exact g a ha⟩
    clear h
    induction l with
    | nil => rfl
    | cons s l ih =>
      have h1 := ih (fun t ht => hs t (List.mem_cons_of_mem _ ht))
      simp only [List.all_cons, h1, hs s (List.mem_cons_self ..)]
      cases s.2.all freeA <;> cases freeS s <;> cases l.all (fun s => s.2.all freeA) <;> cases l.all freeS <;> rfl
end Go.Proofs.YtfekmlblldhieaaDoor.Wt
