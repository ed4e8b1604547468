/- turn.reversed's inner function: an arc more at a state. -/
import Derived.Test.YtibafdehgmalgaaOz
import Derived.Test.YtibafdehgmalgaaRn
import Derived.Test.YtibafdehgmalgaaRg
namespace Go.Proofs.Ytibafdehgmalgaa.Wt
open Go.ChangeShapes Go.WideShapes Go.ChangeAt Go.RowKit
open Go.Proofs.Ytibafdehgmalgaa.Pl
set_option linter.unusedVariables false
set_option linter.unusedSimpArgs false
def HeldG (b : Nat) (vs : Value) (g o nb : Nat) (va : Value) (y0 y1 y2 y3 : Int) (w : World) : Prop := w.cell? ⟨b, 0, none⟩ = some vs ∧ w.cell? ⟨g, o, none⟩ = some va ∧ w.cell? ⟨nb, 0, none⟩ = some (.int .i64 y0) ∧ w.cell? ⟨nb, 1, none⟩ = some (.int .i64 y1) ∧ w.cell? ⟨nb, 2, none⟩ = some (.int .i64 y2) ∧ w.cell? ⟨nb, 3, none⟩ = some (.int .i64 y3)
set_option maxRecDepth 100000 in
/-- lead(q, c). -/
theorem lead_any (b base q : Nat) (c : Ar) (v : Value) (l : List St) (W0 W : World) (h1 : Blk W b #[v] 22) (h20 : OwnApt W0 base v l) (hW0 : Below W0.heap.size W0 W) (hbW0 : base ≤ W0.heap.size) (hq : q < l.length) (hl : (el l q).2.length ≤ 100000) (hll : l.length ≤ 100000) :
    Calls Try.prog 49 #[.int .i64 q, .agg #[.int .i64 c.1, .int .i64 c.2.1, .int .i64 c.2.2.1, .int .i64 c.2.2.2], .pointer (some ⟨b, 0, none⟩)] W fun e W' => e = .returned (.tuple #[]) ∧ OwnApt W' base v (l.set q ((el l q).1, (el l q).2 ++ [c])) ∧ Below base W W' ∧ Kept none W W' ∧ ∀ k, W0.heap.size ≤ k → k < W.heap.size → W'.heap[k]? = W.heap[k]? := by
  have h2 := h20.later hW0
  have hbW : base ≤ W.heap.size := Nat.le_trans hbW0 hW0.size
  obtain ⟨x0, x1, x2, x3⟩ := c
  have hlt := h1.lt
  have hA : Below W.heap.size W (W.alloc (.cells #[.int .i64 x0, .int .i64 x1, .int .i64 x2, .int .i64 x3] 46)) := (Below.refl _ _).alloc (Nat.le_refl _) _
  have hnb := Blk.made W #[.int .i64 x0, .int .i64 x1, .int .i64 x2, .int .i64 x3] 46
  obtain ⟨W1, hW1⟩ : ∃ W1, W1 = W.alloc (.cells #[.int .i64 x0, .int .i64 x1, .int .i64 x2, .int .i64 x3] 46) := ⟨_, rfl⟩
  have hs1 : W1.heap.size = W.heap.size + 1 := by rw [hW1]; simp
  rw [← hW1] at hA hnb
  obtain ⟨g, cap, a4, c4, hv, hbg, hgl, hc, a5, c5, w4, hr4, hc4, hf4, hb4, ho4, hk4, hk5, hg4⟩ := (h2.later hA.drew).arcAt (by show base ≤ W1.heap.size; omega) q hq (x0, x1, x2, x3) (by omega)
  subst hv
  have H1 := hidP (h1.below hA hlt)
  have N1 := hidP hnb
  have hgl' : g < W1.heap.size := hgl
  have hg0 : g < W0.heap.size := by
    obtain ⟨vs, q1, _⟩ := h20
    exact (q1.lt g rfl).2
  have hrow : ∀ k, W0.heap.size ≤ k → some k ≠ (Value.slice a4 (el l q).2.length c4).ownBlock := fun k hk e => by
    have hcW : W0.cell? ⟨g, q * 2 + 1, none⟩ = some (.slice a4 (el l q).2.length c4) := ((hW0.trans (hA.drew.mono hW0.size)).cell (p := ⟨g, q * 2 + 1, none⟩) hg0).symm.trans hc
    have := (h20.rowLt hq hcW _ e.symm).2
    omega
  have n4 : Blk w4 W.heap.size #[.int .i64 x0, .int .i64 x1, .int .i64 x2, .int .i64 x3] 46 := (hnb.drew.alloc _).grown hg4 (hrow _ hW0.size)
  have HU : Hid (∀ k, W0.heap.size ≤ k → k < W.heap.size → (w4.setCell ⟨g, q * 2 + 1, none⟩ (.slice a5 ((el l q).2.length + 1) c5)).heap[k]? = W.heap[k]?) := fun k hk1 hk2 => by
    refine (Below.heap_setCell w4 ⟨g, q * 2 + 1, none⟩ _ k (by show k ≠ g; omega)).trans ?_
    refine (hg4.block k (by rw [World.size_alloc]; show k < W1.heap.size + 1; omega) (hrow k hk1)).trans ?_
    refine (Below.heap_alloc W1.drew _ k (by show k < W1.heap.size; omega)).trans ?_
    exact hA.block k hk2
  have HM4 : Hid (Blk w4 b #[.slice (some ⟨g, 0, none⟩) l.length cap] 22) := hk4.blk H1.out.drew (by simp) (by decide) (by decide)
  have m1 := H1.out.cell 0 (v := .slice (some ⟨g, 0, none⟩) l.length cap) rfl
  have q0 : (0 : Int) ≤ (q : Int) := by omega
  have q1 : (q : Int) < (l.length : Int) := by omega
  generalize el l q = s at *
  obtain ⟨s0, s1⟩ := s
  simp only at hc hr4 hc4 ho4 hk5
  generalize s1.length = sn at *
  have HS : HeldG b (.slice (some ⟨g, 0, none⟩) l.length cap) g (q * 2 + 1) W.heap.size (.slice a4 sn c4) x0 x1 x2 x3 W1.drew := ⟨m1, hc, N1.out.cell 0 rfl, N1.out.cell 1 rfl, N1.out.cell 2 rfl, N1.out.cell 3 rfl⟩
  have HSA : HeldG b (.slice (some ⟨g, 0, none⟩) l.length cap) g (q * 2 + 1) W.heap.size (.slice a4 sn c4) x0 x1 x2 x3 (W1.drew.alloc (.cells #[.int .i64 x0, .int .i64 x1, .int .i64 x2, .int .i64 x3] 46)) := by
    have hx := N1.out.drew.alloc (.cells #[.int .i64 x0, .int .i64 x1, .int .i64 x2, .int .i64 x3] 46)
    exact ⟨(H1.out.drew.alloc _).cell 0 rfl, (((Below.refl W1.drew.heap.size W1.drew).alloc (Nat.le_refl _) _).cell (p := ⟨g, q * 2 + 1, none⟩) hgl).trans hc, hx.cell 0 rfl, hx.cell 1 rfl, hx.cell 2 rfl, hx.cell 3 rfl⟩
  have HS4 : HeldG b (.slice (some ⟨g, 0, none⟩) l.length cap) g (q * 2 + 1) W.heap.size (.slice a4 sn c4) x0 x1 x2 x3 w4 := ⟨HM4.out.cell 0 rfl, hc4, n4.cell 0 rfl, n4.cell 1 rfl, n4.cell 2 rfl, n4.cell 3 rfl⟩
  have R4 := hidP hr4
  have HO4 := hidP ho4
  have HW5 : Hid (Below base W (w4.setCell ⟨g, q * 2 + 1, none⟩ (.slice a5 (sn + 1) c5))) := ((hA.drew.mono hbW).trans hb4).setCell (p := ⟨g, q * 2 + 1, none⟩) hbg _
  have HK5 : Hid (Kept none W (w4.setCell ⟨g, q * 2 + 1, none⟩ (.slice a5 (sn + 1) c5))) := ((Kept.of hA.drew).trans hk4).trans hk5
  clear hr4 ho4 hk4 hk5 hb4 h1 h2 hg4 n4 hnb hA m1 hW0 h20 hrow hg0
  go_enter Try.func49, Try.ntmps49
  go_wp2
  rw [← hW1]
  clear hW1 hs1
  refine region_anyL (HeldG b (.slice (some ⟨g, 0, none⟩) l.length cap) g (q * 2 + 1) W.heap.size (.slice a4 sn c4) x0 x1 x2 x3) 12 (by kernel_rfl) ?_
  refine anyL_take (i := 0) (v := ?v0_1) at0 (by kernel_rfl) (by kernel_rfl) (by kernel_rfl) (by kernel_rfl) (fun _ _ _ h => h) rfl ?y0_1 HS ?r0_1
  case y0_1 => intro wx hx; obtain ⟨h1, h2, h3, h4, h5, h6⟩ := hx; go_simp; try (with_reducible rfl)
  simp only [Act.put, List.setIfInBounds_toArray, List.set_cons_zero, List.set_cons_succ]
  refine anyL_take (i := 1) (v := ?v1_2) (atS at0) (by kernel_rfl) (by kernel_rfl) (by kernel_rfl) (by kernel_rfl) (fun _ _ _ h => h) rfl ?y1_2 HS ?r1_2
  case y1_2 => intro wx hx; obtain ⟨h1, h2, h3, h4, h5, h6⟩ := hx; go_simp; try (with_reducible rfl)
  simp only [Act.put, List.setIfInBounds_toArray, List.set_cons_zero, List.set_cons_succ]
  refine anyL_take (i := 2) (v := ?v2_3) (atS (atS at0)) (by kernel_rfl) (by kernel_rfl) (by kernel_rfl) (by kernel_rfl) (fun _ _ _ h => h) rfl ?y2_3 HS ?r2_3
  case y2_3 => intro wx hx; obtain ⟨h1, h2, h3, h4, h5, h6⟩ := hx; go_simp; try (with_reducible rfl)
  simp only [Act.put, List.setIfInBounds_toArray, List.set_cons_zero, List.set_cons_succ]
  refine anyL_take (i := 3) (v := ?v3_4) (atS (atS (atS at0))) (by kernel_rfl) (by kernel_rfl) (by kernel_rfl) (by kernel_rfl) (fun _ _ _ h => h) rfl ?y3_4 HS ?r3_4
  case y3_4 => intro wx hx; obtain ⟨h1, h2, h3, h4, h5, h6⟩ := hx; go_simp; try (with_reducible rfl)
  simp only [Act.put, List.setIfInBounds_toArray, List.set_cons_zero, List.set_cons_succ]
  refine anyL_take (i := 4) (v := ?v4_5) (atS (atS (atS (atS at0)))) (by kernel_rfl) (by kernel_rfl) (by kernel_rfl) (by kernel_rfl) (fun _ _ _ h => h) rfl ?y4_5 HS ?r4_5
  case y4_5 => intro wx hx; obtain ⟨h1, h2, h3, h4, h5, h6⟩ := hx; go_simp; try (with_reducible rfl)
  simp only [Act.put, List.setIfInBounds_toArray, List.set_cons_zero, List.set_cons_succ]
  refine anyL_take (i := 5) (v := ?v5_6) (atS (atS (atS (atS (atS at0))))) (by kernel_rfl) (by kernel_rfl) (by kernel_rfl) (by kernel_rfl) (fun _ _ _ h => h) rfl ?y5_6 HS ?r5_6
  case y5_6 => intro wx hx; obtain ⟨h1, h2, h3, h4, h5, h6⟩ := hx; go_simp; try (with_reducible rfl)
  simp only [Act.put, List.setIfInBounds_toArray, List.set_cons_zero, List.set_cons_succ]
  refine anyL_take (i := 6) (v := ?v6_7) (atS (atS (atS (atS (atS (atS at0)))))) (by kernel_rfl) (by kernel_rfl) (by kernel_rfl) (by kernel_rfl) (fun _ _ _ h => h) rfl ?y6_7 HS ?r6_7
  case y6_7 => intro wx hx; obtain ⟨h1, h2, h3, h4, h5, h6⟩ := hx; go_simp; try (with_reducible rfl)
  simp only [Act.put, List.setIfInBounds_toArray, List.set_cons_zero, List.set_cons_succ]
  refine anyL_take (i := 7) (v := ?v7_8) (atS (atS (atS (atS (atS (atS (atS at0))))))) (by kernel_rfl) (by kernel_rfl) (by kernel_rfl) (by kernel_rfl) (fun _ _ _ h => h) rfl ?y7_8 HS ?r7_8
  case y7_8 => intro wx hx; obtain ⟨h1, h2, h3, h4, h5, h6⟩ := hx; go_simp; try (with_reducible rfl)
  simp only [Act.put, List.setIfInBounds_toArray, List.set_cons_zero, List.set_cons_succ]
  refine anyL_one (i := 8) (atS (atS (atS (atS (atS (atS (atS (atS at0)))))))) (by kernel_rfl) rfl (fun K hK => ?_)
  go_simp
  refine hK _ _ (.inr HSA) ?_
  try simp only [Act.put, List.setIfInBounds_toArray, List.set_cons_zero, List.set_cons_succ]
  refine anyL_one (i := 9) (atS (atS (atS (atS (atS (atS (atS (atS (atS at0))))))))) (by kernel_rfl) rfl (fun K hK => ?_)
  refine wp_append_run (.tmp 11) (.tmp 13) 42 rfl rfl rfl R4.out ?_
  refine hK _ _ (.inr HS4) ?_
  try simp only [Act.put, List.setIfInBounds_toArray, List.set_cons_zero, List.set_cons_succ]
  refine anyL_one (i := 10) (atS (atS (atS (atS (atS (atS (atS (atS (atS (atS at0)))))))))) (by kernel_rfl) rfl (fun K hK => ?_)
  go_simp
  refine hK _ _ (.inr HS4) ?_
  try simp only [Act.put, List.setIfInBounds_toArray, List.set_cons_zero, List.set_cons_succ]
  refine anyL_take (i := 11) (v := ?v11_9) (atS (atS (atS (atS (atS (atS (atS (atS (atS (atS (atS at0))))))))))) (by kernel_rfl) (by kernel_rfl) (by kernel_rfl) (by kernel_rfl) (fun _ _ _ h => h) rfl ?y11_9 HS4 ?r11_9
  case y11_9 => intro wx hx; obtain ⟨h1, h2, h3, h4, h5, h6⟩ := hx; go_simp; try (with_reducible rfl)
  simp only [Act.put, List.setIfInBounds_toArray, List.set_cons_zero, List.set_cons_succ]
  refine anyL_one (i := 12) (atS (atS (atS (atS (atS (atS (atS (atS (atS (atS (atS (atS at0)))))))))))) (by kernel_rfl) rfl (fun K hK => ?_)
  go_simp
  refine hK _ _ (.inl rfl) (anyL_done (by kernel_rfl) (NoPanic.normal ?_))
  try simp only [Act.put, List.setIfInBounds_toArray, List.set_cons_zero, List.set_cons_succ]
  clear HS HSA HS4 hc4 hf4
  go_wp2
  go_end0
  exact ⟨rfl, HO4.out, HW5.out, HK5.out, HU.out⟩
end Go.Proofs.Ytibafdehgmalgaa.Wt
