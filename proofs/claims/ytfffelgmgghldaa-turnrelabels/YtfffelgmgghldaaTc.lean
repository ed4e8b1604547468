/- turn.changesOf, changes.of: changes under their keys. -/
import Derived.Test.YtfffelgmgghldaaCb
import Derived.Test.YtfffelgmgghldaaPlainCm
import Derived.Test.YtfffelgmgghldaaBlk
import Derived.Maps.Own
import Derived.Maps.OwnSet
import Derived.Deep.QuietTactic
import Derived.BigQuiet
import Derived.Laws.NewFold
namespace Go.Proofs.Ytfffelgmgghldaa.Wt
open Go.ChangeShapes Go.WideShapes Go.ChangeAt Go.RowKit Go.Maps
open Go.Proofs.Ytfffelgmgghldaa.Pl
set_option linter.unusedVariables false
set_option linter.unusedSimpArgs false
theorem lawCh : Keyed Try.prog 3 := int_keyed Try.underlying3
def OwnC (w : World) (m n : Nat) (D : DataW Unit) : Prop := w.ownsMap Try.prog 3 (plainElem Try.prog 3) m n D
theorem OwnC.next {w : World} {m k : Nat} {l : List Ch} (h : OwnC w m k (chM l k)) (hk : k < 1000) (h0 : (Lit.int .i64 (el l k).1).wf = true) (h1 : (Lit.int .i64 (el l k).2).wf = true) :
    ∃ w', (Instr.mapUpdate 52 (.map (some m)) (.int .i64 (el l k).1) (.int .i64 (el l k).2)).run Try.prog w = .ok () w' ∧ OwnC w' m (k + 1) (chM l (k + 1)) ∧ w.grownBy w' (some m) :=
  World.ownsMap.update (R := plainElem Try.prog 3) h lawCh Try.underlying52 (by unfold maxLen; omega) (keyOf_int_mk Try.underlying3 h0) (plainElem_int Try.underlying3 h1)
theorem zeroCh (w : World) : (zeroValue 3).run Try.prog w = .ok (.int .i64 0) w := by kernel_rfl
set_option maxRecDepth 100000 in
theorem look_ch {w : World} {m n : Nat} {l : List Ch} (h : OwnC w m n (chM l l.length)) (ht : twcB l = false) (x : Int) (hs : (Lit.int .i64 x).wf = true) :
    (Instr.lookup 52 (.map (some m)) (.int .i64 x) true).run Try.prog w = .ok (.tuple #[.int .i64 (chgF l x), .bool true]) w ∨
    (chgF l x = x ∧ (Instr.lookup 52 (.map (some m)) (.int .i64 x) true).run Try.prog w = .ok (.tuple #[.int .i64 0, .bool false]) w) := by
  obtain ⟨v, ps, hr, hv⟩ := World.ownsMap.look_ok h lawCh Try.underlying52 (zeroCh w) (plainElem_int Try.underlying3 (by decide)) (keyOf_int_mk Try.underlying3 hs)
  obtain ⟨c, rfl, hc, _⟩ := plainElem_int_inv Try.underlying3 hv
  have hc' := congrArg Prod.fst hc
  simp only at hc'
  rcases chM_look l x l.length with ⟨h1, h2⟩ | ⟨h1, j, hj, h2, h3⟩
  · right
    refine ⟨chg_none h2, ?_⟩
    have e := atKey_of_not_has h1 (DataW.lit (.int .i64 0))
    rw [e] at hc'
    rw [h1] at hr
    injection hc' with e1
    injection e1 with _ e2
    rw [← e2] at hr
    exact hr
  · left
    have e := h3 (DataW.lit (.int .i64 0))
    simp only [chV] at e
    rw [e] at hc'
    rw [h1] at hr
    injection hc' with e1
    injection e1 with _ e2
    rw [← e2, ← chg_at ht hj, h2] at hr
    exact hr
set_option maxRecDepth 100000 in
/-- What a label becomes. -/
theorem of_any (m n : Nat) (l : List Ch) (x : Int) (w : World) (h : OwnC w m n (chM l l.length)) (ht : twcB l = false) (hs : (Lit.int .i64 x).wf = true) :
    Calls Try.prog 35 #[.map (some m), .int .i64 x] w fun e w' => e = .returned (.int .i64 (chgF l x)) ∧ w = w' := by
  rcases look_ch h ht x hs with hr | ⟨he, hr⟩
  · clear h
    generalize chgF l x = y at *
    go_enter Try.func35, Try.ntmps35
    go_wp2
    go_ret
    exact ⟨rfl, rfl⟩
  · clear h
    rw [he]
    clear he
    go_enter Try.func35, Try.ntmps35
    go_wp2
    go_ret
    exact ⟨rfl, rfl⟩
set_option maxRecDepth 100000 in
set_option maxHeartbeats 800000 in
theorem chInRange_any (c : Ch) (w : World) (r : Bool) (hr : chB c = r) :
    Calls Try.prog 47 #[.agg #[.int .i64 c.1, .int .i64 c.2]] w fun e w' => e = .returned (.bool r) ∧ Below w.heap.size w w' := by
  obtain ⟨x, y⟩ := c
  simp only [chB, inB] at hr
  have H : Hid ((decide (1 ≤ x) && decide (x ≤ 1000) && (decide (0 ≤ y) && decide (y ≤ 1000))) = r) := hr
  clear hr
  have ways : ¬ (1 : Int) ≤ x ∨ ((1 : Int) ≤ x ∧ ¬ x ≤ 1000) ∨ ((1 : Int) ≤ x ∧ x ≤ 1000 ∧ ¬ (0 : Int) ≤ y) ∨ ((1 : Int) ≤ x ∧ x ≤ 1000 ∧ (0 : Int) ≤ y ∧ ¬ y ≤ 1000) ∨ ((1 : Int) ≤ x ∧ x ≤ 1000 ∧ (0 : Int) ≤ y ∧ y ≤ 1000) := by omega
  rcases ways with h1 | ⟨h1, h2⟩ | ⟨h1, h2, h3⟩ | ⟨h1, h2, h3, h4⟩ | ⟨h1, h2, h3, h4⟩
  · have hr : r = false := by rw [← H.out]; simp [h1]
    subst hr
    clear H
    go_enter Try.func47, Try.ntmps47
    go_wp2
    go_ret
    exact ⟨rfl, by go_grown⟩
  · have hr : r = false := by rw [← H.out]; simp [h2]
    subst hr
    clear H
    go_enter Try.func47, Try.ntmps47
    go_wp2
    go_ret
    exact ⟨rfl, by go_grown⟩
  · have hr : r = false := by rw [← H.out]; simp [h3]
    subst hr
    clear H
    go_enter Try.func47, Try.ntmps47
    go_wp2
    go_ret
    exact ⟨rfl, by go_grown⟩
  · have hr : r = false := by rw [← H.out]; simp [h4]
    subst hr
    clear H
    go_enter Try.func47, Try.ntmps47
    go_wp2
    go_ret
    exact ⟨rfl, by go_grown⟩
  · have hr : r = true := by rw [← H.out]; simp [h1, h2, h3, h4]
    subst hr
    clear H
    go_enter Try.func47, Try.ntmps47
    go_wp2
    go_ret
    exact ⟨rfl, by go_grown⟩
end Go.Proofs.Ytfffelgmgghldaa.Wt
