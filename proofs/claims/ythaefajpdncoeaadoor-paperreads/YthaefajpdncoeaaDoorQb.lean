/- The lines of a text, each as its words, as the program's iterator hands them over. -/
import Derived.Test.YthaefajpdncoeaaDoorQa
import Derived.Test.YthaefajpdncoeaaDoorRz
import Derived.Shelf.Abstract
import Derived.Shelf.RegionOpen
import Derived.OwnWalkIn
import Derived.TacticsInMore
import Derived.LoopNIn
import Derived.LoopIn
namespace Go.Proofs.YthaefajpdncoeaaDoor.Wt
open Go.ChangeShapes Go.WideShapes Go.ChangeAt Go.RowKit Go.Shelf
open Go.Proofs.YthaefajpdncoeaaDoor.Pl
set_option linter.unusedVariables false
attribute [local go_sem] Oper.semAt_some
/-- A line, its words and the block where they lie. -/
structure Wl where
  s : ByteArray
  bk : Nat
  xs : List ByteArray
  hs : s.size ≤ 20000
  hx : Lib.splitB ⟨#[32]⟩ 0 (Lib.countB s ⟨#[32]⟩) s = xs
def wlL (x : Wl) : List UInt8 := x.s.data.toList
def wlP (x : Wl) : List (List UInt8) := x.xs.map (·.data.toList)
theorem wlP_words (x : Wl) : wlP x = wordsL (wlL x) := by unfold wlP wlL; rw [← x.hx]; exact split_words x.s
theorem wlP_lines (xs : List Wl) : xs.map wlP = (xs.map wlL).map wordsL := by
  rw [List.map_map]
  exact List.map_congr_left fun x _ => wlP_words x
def Lies (x : Wl) (w : World) : Prop := Wds w x.bk x.xs
theorem lies_own (B : Nat) : OwnFrom B Lies := fun x W W' row h hg hr => by
  have hr' : ∀ r, row = some r → ∃ o : Obj, W.heap[r]? = some o ∧ o.isCells = false := fun r e => (hr r e).2
  exact ⟨Nat.lt_of_lt_of_le h.1 hg.size, fun j y hy => cell_kept (h.2 j y hy) hg hr'⟩
def szOf : Value → Nat | .string s => s.size | _ => 0
theorem lines_any (s : ByteArray) (w : World) :
    Calls Tryd.prog 23 #[.string s] w fun e w' => e = .returned (.func (.func 39) #[] #[.pointer (some ⟨w.heap.size, 0, none⟩)]) ∧ w' = w.alloc (.cells #[.string s] 9) := by
  have hmf : ∀ (fn : Fn) (first cap : Array Value) (w : World), (Instr.makeFunc fn first cap).run Tryd.prog w = .ok (.func fn first cap) w := fun _ _ _ _ => rfl
  go_enter Tryd.func23, Tryd.ntmps23
  go_wp2
  go_ret
  exact ⟨rfl, rfl⟩
theorem grown_draws (W : World) (n : Nat) : W.grownBy (W.drewN n) none := ⟨rfl, rfl, rfl, Nat.le_refl _, fun _ _ _ => rfl⟩
theorem empty_list {s : ByteArray} (h : s.data.toList = []) : s = ⟨#[]⟩ := bytes_inj2 h
set_option maxRecDepth 100000 in
set_option maxHeartbeats 2000000 in
theorem lines_in (n l Bs n₀ : Nat) (s : ByteArray) (hs : s.size ≤ 20000) (J Jx : List Wl → World → Prop)
    (hA : ∀ (pre : List Wl) (W : World) (k : Nat) (o : Obj), J pre W → J pre ((W.drewN k).alloc o))
    (hY : ∀ (pre : List Wl) (x : Wl) W, J pre W → Lies x W → pre.length < (linesL s.data.toList).length → YieldAt Fence.wide (n - 1) Tryd.prog l #[.slice (some ⟨x.bk, 0, none⟩) x.xs.length x.xs.length] W fun e W' =>
      (e = .returned (.bool true) ∧ J (pre ++ [x]) W' ∧ Below n₀ W W') ∨ (e = .returned (.bool false) ∧ Jx (pre ++ [x]) W'))
    (W : World) (hB : W.cell? ⟨Bs, 0, none⟩ = some (.string s)) (h0 : J [] W) :
    CallsIn Fence.wide n Tryd.prog 39 #[.func (.yield l) #[] #[], .pointer (some ⟨Bs, 0, none⟩)] W fun e W' => (∃ v, e = .returned v) ∧
      ((∃ ys : List Wl, ys.map wlL = linesL s.data.toList ∧ J ys W') ∨ (∃ pre : List Wl, pre.map wlL <+: linesL s.data.toList ∧ Jx pre W')) := by
  have hnot : ∀ (x : Bool) (w : World), (Op.unary .not (.bool x)).run Tryd.prog w = .ok (.bool (!x)) w := fun _ _ => rfl
  refine callsIn_of_wp Tryd.func39 rfl trivial ?_ rfl
  simp only [Tryd.ntmps39, List.size_toArray, List.length_cons, List.length_nil, Nat.reduceAdd, Nat.reduceSub, Array.replicate_succ, Array.replicate_zero, List.push_toArray, List.append_toArray, List.nil_append, List.cons_append]
  gi_wp2
  gi_loopw [3] (fun p wr => ∃ (pre : List Wl) (rest : ByteArray), p = .string rest ∧ Hid (linesL s.data.toList = pre.map wlL ++ linesL rest.data.toList) ∧ rest.size ≤ 20000 ∧ Hid (J pre wr))
    (fun p _ => szOf p)
  case atStart => exact ⟨[], s, rfl, rfl, hs, h0⟩
  case round =>
    obtain ⟨pre, rest, rfl, hx, hr, hJ⟩ := hrel
    by_cases he : rest.data.toList = []
    · obtain rfl := empty_list he
      have HQ : Hid (pre.map wlL = linesL s.data.toList) := by show _ = _; have h := hx.out; simp [linesL_nil] at h; exact h.symm
      clear hx he
      gi_wp2
      go_end0
      exact ⟨⟨_, rfl⟩, .inl ⟨pre, HQ.out, hJ.out⟩⟩
    · have hl := linesL_cons he
      have h1 := bef_le 10 rest.data.toList
      have h2 := aft_lt 10 rest.data.toList he
      have hsz : rest.data.toList.length = rest.size := by simp
      obtain ⟨x, hx1⟩ : ∃ x, textS (bef 10 rest.data.toList) = x := ⟨_, rfl⟩
      obtain ⟨y, hy1⟩ : ∃ x, textS (aft 10 rest.data.toList) = x := ⟨_, rfl⟩
      have hxs : x.size ≤ 20000 := by rw [← hx1]; show (bef 10 rest.data.toList).length ≤ _; omega
      have hys : y.size < rest.size := by rw [← hy1]; show (aft 10 rest.data.toList).length < _; omega
      have hys2 : y.size ≤ 20000 := by omega
      obtain ⟨ws, hws⟩ : ∃ ws, Lib.splitB ⟨#[32]⟩ 0 (Lib.countB x ⟨#[32]⟩) x = ws := ⟨_, rfl⟩
      have HWS : Hid (Lib.splitB ⟨#[32]⟩ 0 (Lib.countB x ⟨#[32]⟩) x = ws) := hws
      have HX : Hid (textS (bef 10 rest.data.toList) = x) := hx1
      have HY : Hid (textS (aft 10 rest.data.toList) = y) := hy1
      have HZ : Hid (rest.size ≤ 1000000) := by show _ ≤ _; omega
      have HZx : Hid (x.size ≤ 1000000) := by show _ ≤ _; omega
      have HN : Hid (∀ b, linesL s.data.toList = (pre ++ [(⟨x, b, ws, hxs, hws⟩ : Wl)]).map wlL ++ linesL y.data.toList) := by
        have e1 : x.data.toList = bef 10 rest.data.toList := by rw [← hx1]; rfl
        have e2 : y.data.toList = aft 10 rest.data.toList := by rw [← hy1]; rfl
        intro b
        rw [hx.out, hl, e2]; simp [wlL, e1]
      have HP : Hid (pre.length < (linesL s.data.toList).length) := by show _ < _; rw [HN.out 0]; simp
      have ht : rest.toList.isEmpty = false := by
        rw [ByteArray.toList_eq]
        cases h : rest.data.toList with
        | nil => exact absurd h he
        | cons a b => rfl
      clear he hl h1 h2 hsz hx1 hy1 hx
      gi_wp2_with (first
        | (refine ⟨trivial, fun h => (by cases h), ?_⟩; gi_at_call 40; (refine (callsIn_wide.2 (cut_any rest 10 _ HZ.out x y _ HX.out HY.out rfl)).mono ?_); rintro e w1 ⟨rfl, nn, rfl⟩)
        | (refine ⟨trivial, fun h => (by cases h), ?_⟩; gi_at_call 41; (refine (callsIn_wide.2 (split_any x _ HZx.out ws HWS.out)).mono ?_); rintro e w2 ⟨rfl, rfl⟩; obtain ⟨fn, tmps, assign, body, hy, hR⟩ := hY pre ⟨x, wr.heap.size, ws, hxs, hws⟩ ((wr.drewN nn).alloc (.cells (ws.map Value.string).toArray 9)) (hA _ _ _ _ hJ.out) (Wds.made (wr.drewN nn) ws 9) HP.out))
      refine ⟨fun h => (by cases h), hR.mono ?_⟩
      rintro e W3 (⟨rfl, hJ3, hk3⟩ | ⟨rfl, hJx3⟩)
      · gi_wp2
        go_roundw
        case rel => exact ⟨pre ++ [(⟨x, wr.heap.size, ws, hxs, hws⟩ : Wl)], y, rfl, HN.out _, hys2, (show Hid (J (pre ++ [(⟨x, wr.heap.size, ws, hxs, hws⟩ : Wl)]) W3) from hJ3)⟩
        case measure => exact hys
      · gi_wp2
        refine bodyPost_ret (results_none rfl _ _ _) rfl ?_
        exact ⟨⟨_, rfl⟩, .inr ⟨pre ++ [⟨x, wr.heap.size, ws, hxs, hws⟩], ⟨_, (HN.out _).symm⟩, hJx3⟩⟩
/-- The iterator's contract. -/
theorem lines_laid (n Bs n₀ : Nat) (s : ByteArray) (hs : s.size ≤ 20000) (w : World) (hBs : Bs < w.heap.size) (hc : w.cell? ⟨Bs, 0, none⟩ = some (.string s)) :
    SeqLaid Fence.wide n Tryd.prog 39 #[.pointer (some ⟨Bs, 0, none⟩)] (fun x : Wl => #[.slice (some ⟨x.bk, 0, none⟩) x.xs.length x.xs.length]) Lies n₀ (fun ys => ys.map wlL = linesL s.data.toList) (fun pre => pre.map wlL <+: linesL s.data.toList) (linesL s.data.toList).length w :=
  fun l J Jx W hW hJ hJx hY h0 => lines_in n l Bs n₀ s hs J Jx (fun pre W k o h => hJ pre _ _ none (hJ pre W _ none h (grown_draws W k) (fun r e => by cases e)) (World.grownBy_alloc _ o none) (fun r e => by cases e)) hY W ((hW.cell (p := ⟨Bs, 0, none⟩) hBs).trans hc) h0
end Go.Proofs.YthaefajpdncoeaaDoor.Wt
