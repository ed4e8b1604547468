/- What the keeping statements' 'weights' makes of a list of numbers. -/
import Derived.Test.YtanibikfhnglkabKp
import Derived.Test.YtanibikfhnglkabInts
namespace Go.Proofs.Ytanibikfhnglkab.Wt
open Go.ChangeShapes Go.WideShapes Go.ChangeAt Go.RowKit
open Go.Proofs.Ytanibikfhnglkab.Pl
set_option linter.unusedVariables false

theorem infoInt : (Try.prog.info? 3).map (fun i => (i.zero, i.size, i.bytes)) = some (some (.int .i64 0), 1, 8) := by kernel_rfl
def wts (zs : List Int) : List Int := (zs.take 100).map someI
theorem wts_snoc (zs : List Int) (k : Nat) (h : k < zs.length) : ((zs.take (k + 1)).map someI).map (Value.int .i64) = ((zs.take k).map someI).map (Value.int .i64) ++ [.int .i64 (someI (zs[k]?.getD 0))] := by
  rw [take_snoc zs k h]; simp

theorem one_cell (k : IntKind) (y : Int) (t : TypeId) (w : World) : ∀ j, j < [y].length → (w.alloc (.cells #[.int k y] t)).cell? (Addr.add ⟨w.heap.size, 0, none⟩ j) = some (.int k ([y][j]?.getD 0)) := by
  intro j hj
  match j, hj with
  | 0, _ => simp [Addr.add]
set_option maxHeartbeats 1000000 in
theorem weights_some (b off cap : Nat) (zs : List Int) (w : World) (hz : zs.length ≤ maxLen)
    (hc : ∀ j, j < zs.length → w.cell? ⟨b, off + j, none⟩ = some (.int .i64 (zs[j]?.getD 0))) (hwf : ∀ n ∈ zs, (Lit.int .i64 n).wf = true) :
    Calls Try.prog 10 #[.slice (some ⟨b, off, none⟩) zs.length cap] w fun e w' => ∃ v', e = .returned v' ∧ Ints .i64 w' v' (wts zs) ∧ Below w.heap.size w w' := by
  obtain ⟨i0, hi, hz0, hz1, hz2⟩ := info_parts infoInt
  unfold maxLen at hz
  have HWF : Hid (∀ n ∈ zs, (Lit.int .i64 n).wf = true) := hwf
  clear hwf
  generalize hn : zs.length = n at *
  have HN : Hid (zs.length = n) := hn
  clear hn
  go_enter Try.func10, Try.ntmps10
  go_wp2
  go_loopw [3, 4] (fun v i wr => ∃ k : Nat, k ≤ n ∧ k ≤ 100 ∧ i = .int .i64 k ∧ wr.ownsRow w.heap.size 3 1 v k (((zs.take k).map someI).map (Value.int .i64)) ∧ Below w.heap.size w wr) (fun _ i _ => 100 - (intOf i).toNat)
  case atStart => exact ⟨0, Nat.zero_le _, Nat.zero_le _, rfl, World.ownsRow_nil _ _ _ _, Below.refl _ _⟩
  case round =>
    obtain ⟨k, hk, hk2, rfl, hown, hb⟩ := hrel
    by_cases hlt : k < n
    · by_cases hlt2 : k < 100
      · have g : wr.cell? ⟨b, off + k, none⟩ = some (.int .i64 (zs[k]?.getD 0)) := (hb.cell (World.block_lt_of_cell? _ _ (hc k hlt))).trans (hc k hlt)
        have HS : Hid (((zs.take (k + 1)).map someI).map (Value.int .i64) = ((zs.take k).map someI).map (Value.int .i64) ++ [.int .i64 (someI (zs[k]?.getD 0))]) := wts_snoc zs k (by rw [HN.out]; exact hlt)
        have HX : Hid ((Lit.int .i64 (zs[k]?.getD 0)).wf = true) := by
          have hl : k < zs.length := by rw [HN.out]; exact hlt
          show _ = _
          rw [List.getElem?_eq_getElem hl]
          exact HWF.out _ (List.getElem_mem hl)
        clear hc
        generalize zs[k]?.getD 0 = x at g HS HX
        generalize hy : someI x = y at HS
        have HY : Hid (someI x = y) := hy
        have HO : Hid (wr.ownsRow w.heap.size 3 1 u3 k (((zs.take k).map someI).map (Value.int .i64))) := hown
        have HB : Hid (Below w.heap.size w wr) := hb
        have hsz := hb.size
        clear hy hown hb
        generalize ((zs.take k).map someI).map (Value.int .i64) = L at HS HO
        go_wp2_with (first
          | (go_at_call 6; refine (some_any _ _ HX.out).mono ?_; rw [HY.out]; rintro e w' ⟨rfl, rfl⟩)
          | (at_builtin; refine wpList_append_ints .i64 rfl _ _ 29 rfl w.heap.size 3 i0 (.int .i64 0) 8 Try.underlying29 hi hz0 hz1 hz2 rfl _ k _ rfl (HO.out.alloc _) _ [y] rfl (.inr ⟨⟨wr.heap.size, 0, none⟩, 1, rfl, one_cell _ _ _ _⟩) (by unfold maxLen; simp; omega) (by simp; omega) (by simp; omega) ?_))
        intro v' w1 hown' hb'
        have HO' : Hid (w1.ownsRow w.heap.size 3 1 v' (k + 1) (L ++ [.int .i64 y])) := hown'
        have HB' : Hid (Below w.heap.size w w1) := (HB.out.alloc hsz _).trans hb'
        clear hown' hb'
        go_wp2
        go_roundw
        case rel => exact ⟨k + 1, by omega, by omega, by go_num, by rw [HS.out]; exact HO'.out, HB'.out⟩
        case measure => simp [intOf]; omega
      · have hk100 : k = 100 := by omega
        have HO : Hid (Ints .i64 wr u3 (wts zs)) := by
          show Ints _ _ _ _
          have := Ints.ofOwn hown
          rw [hk100] at this
          exact this
        clear hown hc hk100
        go_wp2
        go_ret
        exact ⟨_, rfl, HO.out, hb⟩
    · have hkn : k = n := by omega
      have HO : Hid (Ints .i64 wr u3 (wts zs)) := by
        show Ints _ _ _ _
        have := Ints.ofOwn hown
        rw [hkn, ← HN.out, List.take_length] at this
        unfold wts
        rw [List.take_of_length_le (by rw [HN.out]; omega)]
        exact this
      clear hown hc hkn
      go_wp2
      go_ret
      exact ⟨_, rfl, HO.out, hb⟩

theorem weights_any (v : Value) (zs : List Int) (w : World) (h : Ints .i64 w v zs) (hz : zs.length ≤ maxLen) (hwf : ∀ n ∈ zs, (Lit.int .i64 n).wf = true) :
    Calls Try.prog 10 #[v] w fun e w' => ∃ v', e = .returned v' ∧ Ints .i64 w' v' (wts zs) ∧ Below w.heap.size w w' := by
  by_cases h0 : 0 < zs.length
  · obtain ⟨b, off, cap, rfl, hc⟩ := h.plain h0
    exact weights_some b off cap zs w hz hc hwf
  · obtain rfl : zs = [] := List.eq_nil_of_length_eq_zero (by omega)
    obtain ⟨a, cap, rfl⟩ := h.empty
    clear h
    go_enter Try.func10, Try.ntmps10
    go_wp2
    refine wp_loop_rounds 1 ?_; rw [rounds_succ]
    go_wp2
    go_ret
    exact ⟨_, rfl, .inl ⟨rfl, rfl⟩, Below.refl _ _⟩
end Go.Proofs.Ytanibikfhnglkab.Wt
