/- The statement's own copy of a slice of names, and its comparison of two. -/
import Derived.Test.YtljpbkkofalinaaDoorNm
namespace Go.Proofs.YtljpbkkofalinaaDoor.Wt
open Go.ChangeShapes Go.WideShapes Go.ChangeAt Go.RowKit
open Go.Proofs.YtljpbkkofalinaaDoor.Pl
set_option linter.unusedVariables false
theorem clone_any (v : Value) (ns : List Nm) (w : World) (h : Nms w v ns) (hr : ns.length * 24 ≤ 140737488351232) :
    Calls Tryd.prog 6 #[v] w fun e w' => ∃ v', e = .returned v' ∧ Nms w' v' ns ∧ Below w.heap.size w w' := by
  obtain ⟨i0, hi, hz0, hz1, hz2⟩ := info_parts infoName
  have HI : Hid (Nms w v ns) := h
  clear h
  go_enter Tryd.func6, Tryd.ntmps6
  go_wp2_with (first | (at_builtin; refine wpList_append_names rfl _ _ 22 rfl w.heap.size 36 i0 _ 24 Tryd.underlying22 hi hz0 hz1 hz2 rfl (.slice none 0 0) [] rfl (World.ownsRow_nil _ _ _ _) _ ns rfl HI.out (by unfold maxLen; simp; omega) (by simp; omega) (Nat.le_refl _) ?_; intro v' w' hown hb))
  go_ret
  exact ⟨_, rfl, Nms.ofOwn (by simpa using hown), hb⟩

theorem same_any (v1 v2 : Value) (ns : List Nm) (w : World) (h1 : Nms w v1 ns) (h2 : Nms w v2 ns) (hm : ns.length ≤ maxLen) :
    Calls Tryd.prog 9 #[v1, v2] w fun e w' => e = .returned (.bool true) ∧ Below w.heap.size w w' := by
  unfold maxLen at hm
  by_cases hz : 0 < ns.length
  · obtain ⟨b, off, cap, rfl, hbl, hc⟩ := h1.plain hz
    obtain ⟨b2, off2, cap2, rfl, hbl2, hc2⟩ := h2.plain hz
    clear h1 h2
    generalize hn : ns.length = n at *
    go_enter Tryd.func9, Tryd.ntmps9
    go_wp2
    go_loopw [5] (fun i wr => ∃ k : Nat, k ≤ n ∧ i = .int .i64 k ∧ Below w.heap.size w wr) (fun i _ => n - (intOf i).toNat)
    case atStart => exact ⟨0, Nat.zero_le _, rfl, Below.refl _ _⟩
    case round =>
      obtain ⟨k, hk, rfl, hb⟩ := hrel
      by_cases hlt : k < n
      · have g1 := (hb.cell (World.block_lt_of_cell? _ _ (hc k hlt).1)).trans (hc k hlt).1
        have g2 := (hb.cell (World.block_lt_of_cell? _ _ (hc k hlt).2)).trans (hc k hlt).2
        have g3 := (hb.cell (World.block_lt_of_cell? _ _ (hc2 k hlt).1)).trans (hc2 k hlt).1
        have g4 := (hb.cell (World.block_lt_of_cell? _ _ (hc2 k hlt).2)).trans (hc2 k hlt).2
        clear hc hc2
        generalize (nm ns k).1 = x at g1 g3
        generalize (nm ns k).2 = y at g2 g4
        go_wp2
        go_quiet (fail)
        go_wp2
        go_roundw
        case rel => exact ⟨k + 1, by omega, by go_num, below_drewN hb nq⟩
        case measure => simp [intOf]; omega
      · go_wp2
        go_ret
        exact ⟨rfl, hb⟩
  · obtain rfl : ns = [] := List.eq_nil_of_length_eq_zero (by omega)
    obtain ⟨a, cap, rfl⟩ := h1.empty
    obtain ⟨a2, cap2, rfl⟩ := h2.empty
    go_enter Tryd.func9, Tryd.ntmps9
    go_wp2
    refine wp_loop_rounds 1 ?_; rw [rounds_succ]
    go_wp2
    go_ret
    exact ⟨rfl, Below.refl _ _⟩
end Go.Proofs.YtljpbkkofalinaaDoor.Wt
