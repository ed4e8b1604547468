/- Changes of labels that came in; their copy and their comparison. -/
import Derived.Test.YtfffelgmgghldaaCg
import Derived.Test.YtfffelgmgghldaaMcO
import Derived.Laws.StructEq
namespace Go.Proofs.Ytfffelgmgghldaa.Wt
open Go.ChangeShapes Go.WideShapes Go.ChangeAt Go.RowKit
open Go.Proofs.Ytfffelgmgghldaa.Pl
set_option linter.unusedVariables false
set_option linter.unusedSimpArgs false
theorem infoChange : (Try.prog.info? 59).map (fun i => (i.zero, i.size, i.bytes)) = some (some (.agg #[.int .i64 0, .int .i64 0]), 2, 16) := by kernel_rfl
theorem open_changes {H : Type} {enc : TypeId × Value → H} {w : World} {base : Nat} {sp : Nat → Bool} {held : Bool} {fuel : Nat} {v : Value} {x : DataW H × List MemPlace}
    (h : DataW.trod enc Try.prog w base sp held fuel 32 [v] = some x) (hf : Fits Try.prog 32 x.1) :
    ∃ l : List Ch, Chs w v l ∧ okC l := by
  rcases open_rows Try.underlying32 Try.underlying59 (by kernel_rfl) (by kernel_rfl) h with ⟨hv, hx⟩ | ⟨a, len, cap, n, V, Y, rest, hv, hm, hl, hx, hc⟩
  · exact ⟨[], .inl ⟨hv, rfl⟩, by simp [okC]⟩
  · have key : ∀ i, i < len → ∃ y : Ch, w.cell? (a.add (i * 2)) = some (.int .i64 y.1) ∧ w.cell? (a.add (i * 2 + 1)) = some (.int .i64 y.2) := by
      intro i hi
      obtain ⟨c0, t0⟩ := hc i hi 0 _ rfl
      obtain ⟨c1, t1⟩ := hc i hi 1 _ rfl
      obtain ⟨q0, e0, _, w0⟩ := DataW.trod_int Try.underlying3 t0
      obtain ⟨q1, e1, _, w1⟩ := DataW.trod_int Try.underlying3 t1
      simp at e0 e1
      rw [e0] at c0; rw [e1] at c1
      exact ⟨(q0, q1), c0, c1⟩
    obtain ⟨y, hy⟩ := Go.Deep.choose_lt key
    have hlen : ((List.range len).map y).length = len := by simp
    refine ⟨(List.range len).map y, .inr ⟨a, cap, by rw [hlen]; exact hv, ?_⟩, ?_⟩
    · intro j hj i u hu
      rw [hlen] at hj
      rw [el_range_map y hj] at hu
      obtain ⟨g0, g1⟩ := hy j hj
      match i, hu with
      | 0, hu => simp [encC] at hu; subst hu; exact g0
      | 1, hu => simp [encC] at hu; subst hu; exact g1
      | i + 2, hu => simp [encC] at hu
    · unfold okC
      rw [hlen]
      rw [hx] at hf
      have := hf.len Try.underlying32
      have hby : Try.prog.bytesOf 59 = 16 := by kernel_rfl
      rw [hby] at this
      simpa [reachBytes] using this
theorem changes_any (v : Value) (l : List Ch) (w : World) (h : Chs w v l) (hok : okC l) :
    Calls Try.prog 17 #[v] w fun e w' => ∃ v', e = .returned v' ∧ Chs w' v' l ∧ Below w.heap.size w w' := by
  obtain ⟨i0, hi0, hz0, hz1, hz2⟩ := info_parts infoChange
  unfold okC at hok
  obtain ⟨v1, w1, r1, ho1, hg1⟩ := run_append_rows (P := Try.prog) (w := w) encC_len (by decide) encC_one 32 32 w.heap.size 59 i0 _ 16 Try.underlying32 hi0 hz0 hz1 hz2 rfl (.slice none 0 0) 0 [] (World.ownsRow_nil _ _ _ _) v l h (by unfold maxLen; omega) (by omega) (Nat.le_refl _)
  have HR1 := hidP r1
  have HX : Hid (Chs w1 v1 l) := Row.ofOwn encC_len (own_zero ho1) rfl
  have HB : Hid (Below w.heap.size w w1) := below_new (Nat.le_refl _) hg1
  obtain ⟨a, cap, rfl⟩ := h.sl
  obtain ⟨a1, cap1, rfl⟩ := HX.out.sl
  clear r1 ho1 hg1 h
  generalize l.length = n at *
  go_enter Try.func17, Try.ntmps17
  go_wp2_with (first
    | (at_builtin; refine wpListAppendRun rfl _ _ 32 rfl rfl rfl HR1.out ?_; clear HR1))
  go_ret
  exact ⟨_, rfl, HX.out, HB.out⟩
set_option maxHeartbeats 1000000 in
theorem sameChanges_any (v1 v2 : Value) (l : List Ch) (w : World) (h1 : Chs w v1 l) (h2 : Chs w v2 l) (hok : okC l) :
    Calls Try.prog 20 #[v1, v2] w fun e w' => e = .returned (.bool true) ∧ Below w.heap.size w w' := by
  unfold okC at hok
  obtain ⟨a, cap, rfl, hc⟩ := h1.get
  obtain ⟨a2, cap2, rfl, hc2⟩ := h2.get
  have HC : Hid (∀ j, j < l.length → ∃ b off, a = some ⟨b, off, none⟩ ∧ b < w.heap.size ∧ w.cell? ⟨b, off + j * 2, none⟩ = some (.int .i64 (el l j).1) ∧ w.cell? ⟨b, off + j * 2 + 1, none⟩ = some (.int .i64 (el l j).2)) := hc
  have HC2 : Hid (∀ j, j < l.length → ∃ b off, a2 = some ⟨b, off, none⟩ ∧ b < w.heap.size ∧ w.cell? ⟨b, off + j * 2, none⟩ = some (.int .i64 (el l j).1) ∧ w.cell? ⟨b, off + j * 2 + 1, none⟩ = some (.int .i64 (el l j).2)) := hc2
  clear h1 h2 hc hc2
  generalize l.length = n at *
  go_enter Try.func20, Try.ntmps20
  go_wp2
  go_loopw [5] (fun i wr => ∃ k q : Nat, k ≤ n ∧ i = .int .i64 k ∧ wr = w.drewN q) (fun i _ => n - (intOf i).toNat)
  case atStart => exact ⟨0, 0, Nat.zero_le _, by go_num, (World.drewN_zero w).symm⟩
  case round =>
    obtain ⟨k, q, hk, rfl, rfl⟩ := hrel
    by_cases hlt : k < n
    · obtain ⟨b, off, rfl, _, g0, g1⟩ := HC.out k hlt
      obtain ⟨b2, off2, rfl, _, r0, r1⟩ := HC2.out k hlt
      generalize el l k = p at *
      obtain ⟨p0, p1⟩ := p
      simp only at g0 g1 r0 r1
      have g0' : (w.drewN q).cell? ⟨b, off + k * 2, none⟩ = some (.int .i64 p0) := g0
      have g1' : (w.drewN q).cell? ⟨b, off + k * 2 + 1, none⟩ = some (.int .i64 p1) := g1
      have r0' : (w.drewN q).cell? ⟨b2, off2 + k * 2, none⟩ = some (.int .i64 p0) := r0
      have r1' : (w.drewN q).cell? ⟨b2, off2 + k * 2 + 1, none⟩ = some (.int .i64 p1) := r1
      have hk0 : (0 : Int) ≤ (k : Int) := by omega
      have hk1 : (k : Int) < (n : Int) := by omega
      go_wp2
      go_quiet (fail)
      go_wp2
      go_roundw
      case rel => exact ⟨k + 1, q + nq, by omega, by go_num, by first | rfl | rw [World.drewN_drewN]⟩
      case measure => simp [intOf]; omega
    · have hk1 : ¬ (k : Int) < (n : Int) := by omega
      go_wp2
      go_ret
      exact ⟨rfl, below_drewN (Below.refl _ _) _⟩
end Go.Proofs.Ytfffelgmgghldaa.Wt
