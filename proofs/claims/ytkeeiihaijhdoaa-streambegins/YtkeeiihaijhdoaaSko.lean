/- Ranging over a map of marks: does one cost more than may be? The best one is taken away. -/
import Derived.Test.YtkeeiihaijhdoaaSkn
namespace Go.Proofs.Ytkeeiihaijhdoaa.Sm
open Go.ChangeShapes Go.WideShapes Go.ChangeAt Go.RowKit Go.Maps
open Go.Proofs.Ytkeeiihaijhdoaa.Pl Go.Proofs.Ytkeeiihaijhdoaa.Wt
set_option linter.unusedVariables false
set_option linter.unusedSimpArgs false
abbrev mvV (c : Mv) : Value := .agg #[.int .i64 c.1, .int .i64 c.2.1, .slice c.2.2.1 c.2.2.2.1 c.2.2.2.2]
theorem keyInvI : ∀ key kl, keyOf Try.prog 3 key = some kl → ∃ x : Int, key = .int .i64 x := fun key kl h => by
  obtain ⟨x, hx, _⟩ := Maps.keyOf_int_inv Try.underlying3 h
  exact ⟨x, hx⟩
theorem mvInv : ∀ (v : Value) (y : DataW Value × List MemPlace), rdM v = some y → ∃ c : Mv, v = mvV c := fun v y h => by
  obtain ⟨x, hx, _⟩ := rdM_inv h
  exact ⟨x, hx⟩
/-- What an entry that comes tells. -/
theorem entry_of {w : World} {D : DataW Value} {T : Tbl} (h6 : ∀ q, wfI q → (∀ k, T q = some k → Maps.has D (.int .i64 q) = true ∧ ∃ x : Mv, (∀ zd, D.atKey (.int .i64 q) zd = .held (mkMv x)) ∧ MkIs w (mkMv x) (q, k)) ∧ (T q = none → Maps.has D (.int .i64 q) = false))
    {x : Int} {c : Mv} {kl : Lit} {y : DataW Value × List MemPlace} (hkey : keyOf Try.prog 3 (.int .i64 x) = some kl) (hv : rdM (mvV c) = some y) (hat : ∀ zd, D.atKey kl zd = y.1) :
    kl = .int .i64 x ∧ wfI x ∧ ∃ k : Ky, T x = some k ∧ c.1 = x ∧ c.2.1 = k.1 ∧ c.2.2.2.1 = k.2.length ∧ Nums w (.slice c.2.2.1 k.2.length c.2.2.2.2) k.2 := by
  obtain ⟨x', e1, rfl, hw⟩ := Maps.keyOf_int_inv Try.underlying3 hkey
  injection e1 with _ e2
  subst e2
  refine ⟨rfl, hw, ?_⟩
  have hhas := has_true_of_atKey hat
  rcases hT : T x with _ | k
  · rw [(h6 x hw).2 hT] at hhas; cases hhas
  · obtain ⟨_, x2, g2, g3⟩ := (h6 x hw).1 k hT
    obtain ⟨a, cp, g4, g5⟩ := g3.mv
    obtain ⟨c2, _, rfl⟩ := rdM_inv hv
    have g6 := hat (.lit (.int .i64 0))
    rw [g2] at g6
    simp only [DataW.held.injEq] at g6
    rw [g4] at g6
    refine ⟨k, rfl, ?_⟩
    obtain ⟨c0, c1, c3, c4, c5⟩ := c
    simp only [mkMv, mvV, Value.agg.injEq, Array.mk.injEq, List.cons.injEq, Value.int.injEq, true_and, and_true, Value.slice.injEq] at g6
    obtain ⟨r1, r2, r3, r4, r5⟩ := g6
    subst r3 r5
    exact ⟨r1.symm, r2.symm, r4.symm, g5⟩
set_option maxRecDepth 100000 in
set_option maxHeartbeats 1600000 in
theorem haveOver_any (m : Nat) (T : Tbl) (ks : List Int) (w : World) (hM : MpK w m T ks) :
    Calls Try.prog 29 #[.map (some m)] w fun e w' => ∃ b : Bool, e = .returned (.bool b) ∧ (b = true ↔ ∃ q k, T q = some k ∧ 1000000000 < k.1) ∧ Below w.heap.size w w' := by
  obtain ⟨D, h1, h2, h3, h4, h5, h6⟩ := hM
  have H5 := hidP h5
  have H6 : Hid (∀ q, wfI q → (∀ k, T q = some k → Maps.has D (.int .i64 q) = true ∧ ∃ x : Mv, (∀ zd, D.atKey (.int .i64 q) zd = .held (mkMv x)) ∧ MkIs w (mkMv x) (q, k)) ∧ (T q = none → Maps.has D (.int .i64 q) = false)) := h6
  have HWF : Hid (∀ q k, T q = some k → wfI q) := fun q k h => h5 q ((h4 q).1 (by rw [h]; simp))
  clear h2 h3 h4 h5 h6
  go_enter Try.func29, Try.ntmps29
  go_wp2_with (first
    | (at_range; refine wpList_range_own _ rfl _ 61 rfl 3 67 lawI Try.underlying61 _ m ks.length D rfl h1 ?_; intro w0 hrg0 hg0 hs0)
    | go_in)
  go_frame
  go_loopw [4] (fun _ wr => ∃ (left : Lit → Bool) (cnt : Nat), wr.ranges Try.prog 3 rdM m w.heap.size ks.length D left cnt ∧ Hid (∀ q k, T q = some k → left (.int .i64 q) = false → k.1 ≤ 1000000000) ∧ Hid (Below w.heap.size w wr)) (fun _ wr => wr.rangeLeft m w.heap.size)
  case atStart => exact ⟨_, _, hrg0, (by intro q k hT hl; rw [((H6.out q (HWF.out q k hT)).1 k hT).1] at hl; cases hl), gBelow hg0 (by simp) (Nat.le_refl _)⟩
  case round =>
    clear hrg0 hg0 hs0
    obtain ⟨left, cnt, hrg, hpre, hb⟩ := hrel
    go_wp2_with (first
      | (at_next; refine wpList_next_ranges _ rfl _ rfl 3 lawI rdM (Value.int .i64) mvV keyInvI mvInv m w.heap.size ks.length D _ _ rfl hrg ?_ ?_)
      | go_in)
    · intro _ hl0
      go_wp2
      go_ret
      exact ⟨_, rfl, by simp only [Bool.false_eq_true, false_iff]; rintro ⟨q, k, hT, hk⟩; exact absurd (hpre.out q k hT (hl0 _)) (by omega), hb.out⟩
    · intro x c0 c1 c2 c3 c4 kl y1 y2 w1 cnt1 hkey hlk hv hat hrg1 hlt hg1 hs1 hen
      obtain ⟨rfl, hwx, k, hT, e1, e2, e3, hno⟩ := entry_of H6.out hkey hv hat
      try simp only at e1 e2 e3 hno
      subst e1 e2 e3
      have HB1 : Hid (Below w.heap.size w w1) := hb.out.trans ((gBelow hg1 (fun k hk => by cases hk; exact Nat.le_refl _) hb.out.size))
      have HT := hidP hT
      clear hno hkey hv hat hT
      try simp only at hen
      by_cases hov : 1000000000 < k.1
      · go_wp2
        go_ret
        exact ⟨_, rfl, by simp only [true_iff]; exact ⟨c0, k, HT.out, hov⟩, by have h9 := HB1.out; have h8 := HB1.out.size; go_grown⟩
      · go_wp2
        go_roundw
        case rel => exact ⟨_, cnt1, hrg1.alloc _, (by
          intro q k' hT' hl
          by_cases e : q = c0
          · subst e
            rw [HT.out, Option.some.injEq] at hT'
            rw [← hT']; omega
          · refine hpre.out q k' hT' ?_
            have hns : (Lit.int .i64 q).sameKey (.int .i64 c0) = false := by simp [Lit.sameKey, e]
            simpa [hns] using hl), by show Below _ _ _; have h9 := HB1.out; have h8 := HB1.out.size; go_grown⟩
        case measure => rw [(hrg1.alloc _).left_eq, hrg.left_eq]; exact hlt
end Go.Proofs.Ytkeeiihaijhdoaa.Sm
