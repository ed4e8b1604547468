/- The keeping statements' comparison of two machines: where they are the same. -/
import Derived.Test.YtfekmlblldhieaaDoorMc
import Derived.Test.YtfekmlblldhieaaDoorRg
import Derived.Test.YtfekmlblldhieaaDoorBlk
import Derived.Laws.StructEq
namespace Go.Proofs.YtfekmlblldhieaaDoor.Wt
open Go.ChangeShapes Go.WideShapes Go.ChangeAt Go.RowKit
open Go.Proofs.YtfekmlblldhieaaDoor.Pl
set_option linter.unusedVariables false
set_option linter.unusedSimpArgs false
set_option maxRecDepth 100000 in
set_option maxHeartbeats 1000000 in
theorem sameState_any (f : Int) (v1 v2 : Value) (l : List Ar) (w : World) (h1 : Arcs w v1 l) (h2 : Arcs w v2 l) (hl : l.length ≤ 4398046511104) :
    Calls Tryd.prog 35 #[.agg #[.int .i64 f, v1], .agg #[.int .i64 f, v2]] w fun e w' => e = .returned (.bool true) ∧ Below w.heap.size w w' := by
  obtain ⟨a, cap, rfl, hc⟩ := h1.get
  obtain ⟨a2, cap2, rfl, hc2⟩ := h2.get
  have HC : Hid (∀ j, j < l.length → ∃ b off, a = some ⟨b, off, none⟩ ∧ b < w.heap.size ∧ w.cell? ⟨b, off + j * 4, none⟩ = some (.int .i64 (el l j).1) ∧ w.cell? ⟨b, off + j * 4 + 1, none⟩ = some (.int .i64 (el l j).2.1) ∧ w.cell? ⟨b, off + j * 4 + 2, none⟩ = some (.int .i64 (el l j).2.2.1) ∧ w.cell? ⟨b, off + j * 4 + 3, none⟩ = some (.int .i64 (el l j).2.2.2)) := hc
  have HC2 : Hid (∀ j, j < l.length → ∃ b off, a2 = some ⟨b, off, none⟩ ∧ b < w.heap.size ∧ w.cell? ⟨b, off + j * 4, none⟩ = some (.int .i64 (el l j).1) ∧ w.cell? ⟨b, off + j * 4 + 1, none⟩ = some (.int .i64 (el l j).2.1) ∧ w.cell? ⟨b, off + j * 4 + 2, none⟩ = some (.int .i64 (el l j).2.2.1) ∧ w.cell? ⟨b, off + j * 4 + 3, none⟩ = some (.int .i64 (el l j).2.2.2)) := hc2
  clear h1 h2 hc hc2
  generalize l.length = n at *
  go_enter Tryd.func35, Tryd.ntmps35
  go_wp2
  go_loopw [5] (fun i wr => ∃ k q : Nat, k ≤ n ∧ i = .int .i64 k ∧ wr = ((w.alloc (.cells #[.int .i64 f, .slice a n cap] 46)).alloc (.cells #[.int .i64 f, .slice a2 n cap2] 46)).drewN q) (fun i _ => n - (intOf i).toNat)
  case atStart => exact ⟨0, 0, Nat.zero_le _, rfl, (World.drewN_zero _).symm⟩
  case round =>
    obtain ⟨k, q, hk, rfl, hw⟩ := hrel
    have HW : Hid (wr = ((w.alloc (.cells #[.int .i64 f, .slice a n cap] 46)).alloc (.cells #[.int .i64 f, .slice a2 n cap2] 46)).drewN q) := hw
    have hb : Below w.heap.size w wr := by rw [hw]; exact below_drewN (by go_grown) q
    have c1 : wr.cell? ⟨w.heap.size, 1, none⟩ = some (.slice a n cap) := by rw [hw]; go_cell
    have c2 : wr.cell? ⟨w.heap.size + 1, 1, none⟩ = some (.slice a2 n cap2) := by rw [hw]; go_cell
    clear hw
    by_cases hlt : k < n
    · obtain ⟨b, off, rfl, hbl, g0, g1, g2, g3⟩ := HC.out k hlt
      obtain ⟨b2, off2, rfl, hbl2, r0, r1, r2, r3⟩ := HC2.out k hlt
      have g0 := (hb.cell (p := ⟨b, off + k * 4, none⟩) hbl).trans g0
      have g1 := (hb.cell (p := ⟨b, off + k * 4 + 1, none⟩) hbl).trans g1
      have g2 := (hb.cell (p := ⟨b, off + k * 4 + 2, none⟩) hbl).trans g2
      have g3 := (hb.cell (p := ⟨b, off + k * 4 + 3, none⟩) hbl).trans g3
      have r0 := (hb.cell (p := ⟨b2, off2 + k * 4, none⟩) hbl2).trans r0
      have r1 := (hb.cell (p := ⟨b2, off2 + k * 4 + 1, none⟩) hbl2).trans r1
      have r2 := (hb.cell (p := ⟨b2, off2 + k * 4 + 2, none⟩) hbl2).trans r2
      have r3 := (hb.cell (p := ⟨b2, off2 + k * 4 + 3, none⟩) hbl2).trans r3
      clear hb hbl hbl2
      generalize el l k = p at *
      obtain ⟨p0, p1, p2, p3⟩ := p
      simp only at g0 g1 g2 g3 r0 r1 r2 r3
      have hk0 : (0 : Int) ≤ (k : Int) := by omega
      have hk1 : (k : Int) < (n : Int) := by omega
      go_wp2
      go_quiet (fail)
      go_wp2
      go_roundw
      case rel => exact ⟨k + 1, q + nq, by omega, by go_num, by rw [HW.out, World.drewN_drewN]⟩
      case measure => simp [intOf]; omega
    · have hnl : ¬ (k : Int) < (n : Int) := by omega
      go_wp2
      go_ret
      exact ⟨rfl, hb⟩
def HeldL (B b off b2 off2 n cap cap2 k : Nat) (f : Int) (va va2 : Value) (w : World) : Prop :=
  w.cell? ⟨B, 1, none⟩ = some (.slice (some ⟨b, off, none⟩) n cap) ∧ w.cell? ⟨B + 1, 1, none⟩ = some (.slice (some ⟨b2, off2, none⟩) n cap2) ∧ w.cell? ⟨b, off + k * 2, none⟩ = some (.int .i64 f) ∧ w.cell? ⟨b, off + k * 2 + 1, none⟩ = some va ∧ w.cell? ⟨b2, off2 + k * 2, none⟩ = some (.int .i64 f) ∧ w.cell? ⟨b2, off2 + k * 2 + 1, none⟩ = some va2
theorem HeldL.below {B b off b2 off2 n cap cap2 k : Nat} {f : Int} {va va2 : Value} {w w' : World} (h : HeldL B b off b2 off2 n cap cap2 k f va va2 w) (hb : Below w.heap.size w w') : HeldL B b off b2 off2 n cap cap2 k f va va2 w' := by
  obtain ⟨h1, h2, h3, h4, h5, h6⟩ := h
  exact ⟨(hb.cell (World.block_lt_of_cell? _ _ h1)).trans h1, (hb.cell (World.block_lt_of_cell? _ _ h2)).trans h2, (hb.cell (World.block_lt_of_cell? _ _ h3)).trans h3, (hb.cell (World.block_lt_of_cell? _ _ h4)).trans h4, (hb.cell (World.block_lt_of_cell? _ _ h5)).trans h5, (hb.cell (World.block_lt_of_cell? _ _ h6)).trans h6⟩
set_option maxHeartbeats 1000000 in
set_option maxRecDepth 100000 in
theorem keepAlike_any (v1 v2 : Value) (m : Mc) (w : World) (h1 : Mach w v1 m) (h2 : Mach w v2 m) (hok : okM m) :
    Calls Tryd.prog 14 #[v1, v2] w fun e w' => e = .returned (.bool true) ∧ Below w.heap.size w w' := by
  obtain ⟨z, l⟩ := m
  obtain ⟨vs, rfl, hS⟩ := h1
  obtain ⟨vs2, rfl, hS2⟩ := h2
  obtain ⟨a, cap, rfl, hc⟩ := hS.get
  obtain ⟨a2, cap2, rfl, hc2⟩ := hS2.get
  have HC : Hid (∀ j, j < l.length → ∃ b off va, a = some ⟨b, off, none⟩ ∧ b < w.heap.size ∧ w.cell? ⟨b, off + j * 2, none⟩ = some (.int .i64 (el l j).1) ∧ w.cell? ⟨b, off + j * 2 + 1, none⟩ = some va ∧ Arcs w va (el l j).2) := hc
  have HC2 : Hid (∀ j, j < l.length → ∃ b off va, a2 = some ⟨b, off, none⟩ ∧ b < w.heap.size ∧ w.cell? ⟨b, off + j * 2, none⟩ = some (.int .i64 (el l j).1) ∧ w.cell? ⟨b, off + j * 2 + 1, none⟩ = some va ∧ Arcs w va (el l j).2) := hc2
  have hl := hok.1
  have HL : Hid (∀ j, j < l.length → (el l j).2.length ≤ 4398046511104) := fun j hj => by have := hok.2 j hj; simp only at this; omega
  clear hS hS2 hc hc2 hok
  simp only at hl ⊢
  generalize hn : l.length = n at *
  have hnot : ∀ (x : Bool) (w : World), (Op.unary .not (.bool x)).run Tryd.prog w = .ok (.bool (!x)) w := fun _ _ => rfl
  go_enter Tryd.func14, Tryd.ntmps14
  go_wp2
  go_loopw [5] (fun i wr => ∃ k : Nat, k ≤ n ∧ i = .int .i64 k ∧ Hid (Blk wr w.heap.size #[.int .i64 z, .slice a n cap] 24) ∧ Hid (Blk wr (w.heap.size + 1) #[.int .i64 z, .slice a2 n cap2] 24) ∧ Hid (Below w.heap.size w wr)) (fun i _ => n - (intOf i).toNat)
  case atStart => exact ⟨0, Nat.zero_le _, rfl, (Blk.made _ _ _).alloc _, by have h := Blk.made (w.alloc (.cells #[.int .i64 z, .slice a n cap] 24)) #[.int .i64 z, .slice a2 n cap2] 24; simp only [World.size_alloc] at h; exact h, by (show Below _ _ _); go_grown⟩
  case round =>
    obtain ⟨k, hk, rfl, b0, b1, hb⟩ := hrel
    have c1 := b0.out.cell 1 (v := .slice a n cap) rfl
    by_cases hlt : k < n
    · obtain ⟨b, off, va, rfl, hbl, g0, g1, gA⟩ := HC.out k hlt
      obtain ⟨b2, off2, va2, rfl, hbl2, r0, r1, rA⟩ := HC2.out k hlt
      have HS : HeldL w.heap.size b off b2 off2 n cap cap2 k (el l k).1 va va2 wr.drew := ⟨c1, b1.out.cell 1 rfl, (hb.out.cell (p := ⟨b, off + k * 2, none⟩) hbl).trans g0, (hb.out.cell (p := ⟨b, off + k * 2 + 1, none⟩) hbl).trans g1, (hb.out.cell (p := ⟨b2, off2 + k * 2, none⟩) hbl2).trans r0, (hb.out.cell (p := ⟨b2, off2 + k * 2 + 1, none⟩) hbl2).trans r1⟩
      have GA : Hid (Arcs wr.drew va (el l k).2) := gA.later hb.out.drew (Nat.le_refl _)
      have RA : Hid (Arcs wr.drew va2 (el l k).2) := rA.later hb.out.drew (Nat.le_refl _)
      have HLk : Hid ((el l k).2.length ≤ 4398046511104) := HL.out k hlt
      clear gA rA g0 g1 r0 r1 hbl hbl2
      have hk0 : (0 : Int) ≤ (k : Int) := by omega
      have hk1 : (k : Int) < (n : Int) := by omega
      generalize (el l k).1 = f at *
      go_wp2
      refine region_anyL (HeldL w.heap.size b off b2 off2 n cap cap2 k f va va2) 1000 (by kernel_rfl) ?_
      refine anyL_take (i := 0) (v := ?v0_1) at0 (by kernel_rfl) (by kernel_rfl) (by kernel_rfl) (by kernel_rfl) (fun _ _ _ h => h) rfl ?y0_1 HS ?r0_1
      case y0_1 => intro wx hx; obtain ⟨h1, h2, h3, h4, h5, h6⟩ := hx; go_simp; try (with_reducible rfl)
      simp only [Act.put, List.setIfInBounds_toArray, List.set_cons_zero, List.set_cons_succ]
      refine anyL_take (i := 1) (v := ?v1_2) (atS at0) (by kernel_rfl) (by kernel_rfl) (by kernel_rfl) (by kernel_rfl) (fun _ _ _ h => h) rfl ?y1_2 HS ?r1_2
      case y1_2 => intro wx hx; obtain ⟨h1, h2, h3, h4, h5, h6⟩ := hx; go_simp; try (with_reducible rfl)
      simp only [Act.put, List.setIfInBounds_toArray, List.set_cons_zero, List.set_cons_succ]
      refine anyL_take (i := 2) (v := ?v2_3) (atS (atS at0)) (by kernel_rfl) (by kernel_rfl) (by kernel_rfl) (by kernel_rfl) (fun _ _ _ h => h) rfl ?y2_3 HS ?r2_3
      case y2_3 => intro wx hx; obtain ⟨h1, h2, h3, h4, h5, h6⟩ := hx; go_simp; try (with_reducible rfl)
      simp only [Act.put, List.setIfInBounds_toArray, List.set_cons_zero, List.set_cons_succ]
      refine anyL_take (i := 3) (v := ?v3_4) (atS (atS (atS at0))) (by kernel_rfl) (by kernel_rfl) (by kernel_rfl) (by kernel_rfl) (fun _ _ _ h => h) rfl ?y3_4 HS ?r3_4
      case y3_4 => intro wx hx; obtain ⟨h1, h2, h3, h4, h5, h6⟩ := hx; go_simp; try (with_reducible rfl)
      simp only [Act.put, List.setIfInBounds_toArray, List.set_cons_zero, List.set_cons_succ]
      refine anyL_take (i := 4) (v := ?v4_5) (atS (atS (atS (atS at0)))) (by kernel_rfl) (by kernel_rfl) (by kernel_rfl) (by kernel_rfl) (fun _ _ _ h => h) rfl ?y4_5 HS ?r4_5
      case y4_5 => intro wx hx; obtain ⟨h1, h2, h3, h4, h5, h6⟩ := hx; go_simp; try (with_reducible rfl)
      simp only [Act.put, List.setIfInBounds_toArray, List.set_cons_zero, List.set_cons_succ]
      refine anyL_take (i := 5) (v := ?v5_6) (atS (atS (atS (atS (atS at0))))) (by kernel_rfl) (by kernel_rfl) (by kernel_rfl) (by kernel_rfl) (fun _ _ _ h => h) rfl ?y5_6 HS ?r5_6
      case y5_6 => intro wx hx; obtain ⟨h1, h2, h3, h4, h5, h6⟩ := hx; go_simp; try (with_reducible rfl)
      simp only [Act.put, List.setIfInBounds_toArray, List.set_cons_zero, List.set_cons_succ]
      refine anyL_take (i := 6) (v := ?v6_7) (atS (atS (atS (atS (atS (atS at0)))))) (by kernel_rfl) (by kernel_rfl) (by kernel_rfl) (by kernel_rfl) (fun _ _ _ h => h) rfl ?y6_7 HS ?r6_7
      case y6_7 => intro wx hx; obtain ⟨h1, h2, h3, h4, h5, h6⟩ := hx; go_simp; try (with_reducible rfl)
      simp only [Act.put, List.setIfInBounds_toArray, List.set_cons_zero, List.set_cons_succ]
      refine anyL_take (i := 7) (v := ?v7_8) (atS (atS (atS (atS (atS (atS (atS at0))))))) (by kernel_rfl) (by kernel_rfl) (by kernel_rfl) (by kernel_rfl) (fun _ _ _ h => h) rfl ?y7_8 HS ?r7_8
      case y7_8 => intro wx hx; obtain ⟨h1, h2, h3, h4, h5, h6⟩ := hx; go_simp; try (with_reducible rfl)
      simp only [Act.put, List.setIfInBounds_toArray, List.set_cons_zero, List.set_cons_succ]
      refine anyL_take (i := 8) (v := ?v8_9) (atS (atS (atS (atS (atS (atS (atS (atS at0)))))))) (by kernel_rfl) (by kernel_rfl) (by kernel_rfl) (by kernel_rfl) (fun _ _ _ h => h) rfl ?y8_9 HS ?r8_9
      case y8_9 => intro wx hx; obtain ⟨h1, h2, h3, h4, h5, h6⟩ := hx; go_simp; try (with_reducible rfl)
      simp only [Act.put, List.setIfInBounds_toArray, List.set_cons_zero, List.set_cons_succ]
      refine anyL_take (i := 9) (v := ?v9_10) (atS (atS (atS (atS (atS (atS (atS (atS (atS at0))))))))) (by kernel_rfl) (by kernel_rfl) (by kernel_rfl) (by kernel_rfl) (fun _ _ _ h => h) rfl ?y9_10 HS ?r9_10
      case y9_10 => intro wx hx; obtain ⟨h1, h2, h3, h4, h5, h6⟩ := hx; go_simp; try (with_reducible rfl)
      simp only [Act.put, List.setIfInBounds_toArray, List.set_cons_zero, List.set_cons_succ]
      refine anyL_one (i := 10) (atS (atS (atS (atS (atS (atS (atS (atS (atS (atS at0)))))))))) (by kernel_rfl) rfl (fun K hK => ?_)
      go_simp
      refine (sameState_any f va va2 _ _ GA.out RA.out HLk.out).mono ?_
      rintro e w2 ⟨rfl, hb2⟩
      have hbA : Below wr.heap.size wr w2 := ⟨hb2.os, hb2.tape, hb2.output, hb2.size, hb2.block⟩
      have HS2 : HeldL w.heap.size b off b2 off2 n cap cap2 k f va va2 w2 := HS.below hb2
      refine hK _ _ (.inr HS2) ?_
      try simp only [Act.put, List.setIfInBounds_toArray, List.set_cons_zero, List.set_cons_succ]
      refine anyL_take (i := 11) (v := ?v11_11) (atS (atS (atS (atS (atS (atS (atS (atS (atS (atS (atS at0))))))))))) (by kernel_rfl) (by kernel_rfl) (by kernel_rfl) (by kernel_rfl) (fun _ _ _ h => h) rfl ?y11_11 HS2 ?r11_11
      case y11_11 => intro wx hx; obtain ⟨h1, h2, h3, h4, h5, h6⟩ := hx; go_simp; try (with_reducible rfl)
      simp only [Act.put, List.setIfInBounds_toArray, List.set_cons_zero, List.set_cons_succ]
      refine anyL_done (by kernel_rfl) (NoPanic.normal ?_)
      have E0 : Hid (Blk w2 w.heap.size #[.int .i64 z, .slice (some ⟨b, off, none⟩) n cap] 24) := b0.out.below hbA b0.out.lt
      have E1 : Hid (Blk w2 (w.heap.size + 1) #[.int .i64 z, .slice (some ⟨b2, off2, none⟩) n cap2] 24) := b1.out.below hbA b1.out.lt
      have E2 : Hid (Below w.heap.size w w2) := hb.out.trans (hbA.mono hb.out.size)
      clear HS HS2 hb2 hbA b0 b1 hb c1 GA RA
      go_wp2
      go_roundw
      case rel => exact ⟨k + 1, by omega, by go_num, E0, E1, E2⟩
      case measure => simp [intOf]; omega
    · have hnl : ¬ (k : Int) < (n : Int) := by omega
      go_wp2
      go_ret
      exact ⟨rfl, hb.out⟩
end Go.Proofs.YtfekmlblldhieaaDoor.Wt
