/- The lines of a text, as the program's iterator hands them over. -/
import Derived.Test.YtljpbkkofalinaaDoorCu
import Derived.RangeFuncNested
import Derived.RangeFuncBound
import Derived.RangeFuncCalls
import Derived.RangeFuncLeaves
import Derived.Shelf.Abstract
import Derived.Shelf.RegionOpen
import Derived.OwnWalkIn
import Derived.TacticsInMore
import Derived.LoopNIn
import Derived.LoopIn
import Derived.Laws.StructEq
import Derived.MapKept
namespace Go.Proofs.YtljpbkkofalinaaDoor.Wt
open Go.ChangeShapes Go.WideShapes Go.ChangeAt Go.RowKit Go.Shelf
open Go.Proofs.YtljpbkkofalinaaDoor.Pl
set_option linter.unusedVariables false
attribute [local go_sem] Oper.semAt_some
abbrev Ln := { x : ByteArray // x.size ≤ 20000 }
def lnL (x : Ln) : List UInt8 := x.1.data.toList
def szOf : Value → Nat | .string s => s.size | _ => 0
theorem lines_any (s : ByteArray) (w : World) :
    Calls Tryd.prog 19 #[.string s] w fun e w' => e = .returned (.func (.func 30) #[] #[.pointer (some ⟨w.heap.size, 0, none⟩)]) ∧ w' = w.alloc (.cells #[.string s] 9) := by
  have hmf : ∀ (fn : Fn) (first cap : Array Value) (w : World), (Instr.makeFunc fn first cap).run Tryd.prog w = .ok (.func fn first cap) w := fun _ _ _ _ => rfl
  go_enter Tryd.func19, Tryd.ntmps19
  go_wp2
  go_ret
  exact ⟨rfl, rfl⟩
theorem grown_draws (W : World) (n : Nat) : W.grownBy (W.drewN n) none := ⟨rfl, rfl, rfl, Nat.le_refl _, fun _ _ _ => rfl⟩
theorem empty_list {s : ByteArray} (h : s.data.toList = []) : s = ⟨#[]⟩ := bytes_inj2 h
set_option maxRecDepth 100000 in
set_option maxHeartbeats 2000000 in
theorem lines_in (n l Bs n₀ : Nat) (s : ByteArray) (hs : s.size ≤ 20000) (J Jx : List Ln → World → Prop)
    (hA : ∀ (pre : List Ln) (W : World) (k : Nat), J pre W → J pre (W.drewN k))
    (hY : ∀ (pre : List Ln) (x : Ln) W, J pre W → pre.length < (linesL s.data.toList).length → YieldAt Fence.wide (n - 1) Tryd.prog l #[.string x.1] W fun e W' =>
      (e = .returned (.bool true) ∧ J (pre ++ [x]) W' ∧ Below n₀ W W') ∨ (e = .returned (.bool false) ∧ Jx (pre ++ [x]) W'))
    (W : World) (hB : W.cell? ⟨Bs, 0, none⟩ = some (.string s)) (h0 : J [] W) :
    CallsIn Fence.wide n Tryd.prog 30 #[.func (.yield l) #[] #[], .pointer (some ⟨Bs, 0, none⟩)] W fun e W' => (∃ v, e = .returned v) ∧
      ((∃ ys : List Ln, ys.map lnL = linesL s.data.toList ∧ J ys W') ∨ (∃ pre : List Ln, pre.map lnL <+: linesL s.data.toList ∧ Jx pre W')) := by
  have hnot : ∀ (x : Bool) (w : World), (Op.unary .not (.bool x)).run Tryd.prog w = .ok (.bool (!x)) w := fun _ _ => rfl
  refine callsIn_of_wp Tryd.func30 rfl trivial ?_ rfl
  simp only [Tryd.ntmps30, List.size_toArray, List.length_cons, List.length_nil, Nat.reduceAdd, Nat.reduceSub, Array.replicate_succ, Array.replicate_zero, List.push_toArray, List.append_toArray, List.nil_append, List.cons_append]
  gi_wp2
  gi_loopw [3] (fun p wr => ∃ (pre : List Ln) (rest : ByteArray), p = .string rest ∧ Hid (linesL s.data.toList = pre.map lnL ++ linesL rest.data.toList) ∧ rest.size ≤ 20000 ∧ Hid (J pre wr))
    (fun p _ => szOf p)
  case atStart => exact ⟨[], s, rfl, rfl, hs, h0⟩
  case round =>
    obtain ⟨pre, rest, rfl, hx, hr, hJ⟩ := hrel
    by_cases he : rest.data.toList = []
    · obtain rfl := empty_list he
      have HQ : Hid (pre.map lnL = linesL s.data.toList) := by show _ = _; have h := hx.out; simp [linesL_nil] at h; exact h.symm
      clear hx he
      gi_wp2
      go_end0
      exact ⟨⟨_, rfl⟩, .inl ⟨pre, HQ.out, hJ.out⟩⟩
    · have hl := linesL_cons he
      have h1 := bef_le 10 rest.data.toList
      have h2 := aft_lt 10 rest.data.toList he
      have hsz : rest.data.toList.length = rest.size := by simp
      obtain ⟨x, hx1⟩ : ∃ x, textS (bef 10 rest.data.toList) = x := ⟨_, rfl⟩
      obtain ⟨y, hy1⟩ : ∃ x, textS (aft 10 rest.data.toList) = x := ⟨_, rfl⟩
      have hxs : x.size ≤ 20000 := by rw [← hx1]; show (bef 10 rest.data.toList).length ≤ _; omega
      have hys : y.size < rest.size := by rw [← hy1]; show (aft 10 rest.data.toList).length < _; omega
      have hys2 : y.size ≤ 20000 := by omega
      have HX : Hid (textS (bef 10 rest.data.toList) = x) := hx1
      have HY : Hid (textS (aft 10 rest.data.toList) = y) := hy1
      have HZ : Hid (rest.size ≤ 1000000) := by show _ ≤ _; omega
      have HN : Hid (linesL s.data.toList = (pre ++ [(⟨x, hxs⟩ : Ln)]).map lnL ++ linesL y.data.toList) := by
        have e1 : x.data.toList = bef 10 rest.data.toList := by rw [← hx1]; rfl
        have e2 : y.data.toList = aft 10 rest.data.toList := by rw [← hy1]; rfl
        show _ = _
        rw [hx.out, hl, e2]; simp [lnL, e1]
      have HP : Hid (pre.length < (linesL s.data.toList).length) := by show _ < _; rw [HN.out]; simp
      have ht : rest.toList.isEmpty = false := by
        rw [ByteArray.toList_eq]
        cases h : rest.data.toList with
        | nil => exact absurd h he
        | cons a b => rfl
      clear he hl h1 h2 hsz hx1 hy1 hx
      gi_wp2_with (first
        | (refine ⟨trivial, fun h => (by cases h), ?_⟩; gi_at_call 31; (refine (callsIn_wide.2 (cut_any rest 10 _ HZ.out x y _ HX.out HY.out rfl)).mono ?_); rintro e w1 ⟨rfl, nn, rfl⟩; obtain ⟨fn, tmps, assign, body, hy, hR⟩ := hY pre ⟨x, hxs⟩ (wr.drewN nn) (hA _ _ _ hJ.out) HP.out))
      refine ⟨fun h => (by cases h), hR.mono ?_⟩
      rintro e W3 (⟨rfl, hJ3, hk3⟩ | ⟨rfl, hJx3⟩)
      · gi_wp2
        go_roundw
        case rel => exact ⟨pre ++ [(⟨x, hxs⟩ : Ln)], y, rfl, HN, hys2, (show Hid (J (pre ++ [(⟨x, hxs⟩ : Ln)]) W3) from hJ3)⟩
        case measure => exact hys
      · gi_wp2
        refine bodyPost_ret (results_none rfl _ _ _) rfl ?_
        exact ⟨⟨_, rfl⟩, .inr ⟨pre ++ [⟨x, hxs⟩], ⟨_, HN.out.symm⟩, hJx3⟩⟩
/-- The iterator's contract. -/
theorem lines_stops (n Bs n₀ : Nat) (s : ByteArray) (hs : s.size ≤ 20000) (w : World) (hBs : Bs < w.heap.size) (hc : w.cell? ⟨Bs, 0, none⟩ = some (.string s)) :
    SeqStopsK Fence.wide n Tryd.prog 30 #[.pointer (some ⟨Bs, 0, none⟩)] (fun x : Ln => #[.string x.1]) (Below n₀) (fun ys => ys.map lnL = linesL s.data.toList) (fun pre => pre.map lnL <+: linesL s.data.toList) (linesL s.data.toList).length w :=
  fun l J Jx W hW hJ hJx hY h0 => lines_in n l Bs n₀ s hs J Jx (fun pre W k h => hJ pre W _ none h (grown_draws W k) (fun r e => by cases e)) hY W ((hW.cell (p := ⟨Bs, 0, none⟩) hBs).trans hc) h0
end Go.Proofs.YtljpbkkofalinaaDoor.Wt
