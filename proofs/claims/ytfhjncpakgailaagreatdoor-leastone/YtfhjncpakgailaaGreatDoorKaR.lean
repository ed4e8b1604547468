/- The keeping statements' comparison of two machines: where they are the same. -/
import Derived.Test.YtfhjncpakgailaaGreatDoorKaa
import Derived.Test.YtfhjncpakgailaaGreatDoorKab
import Derived.Laws.StructEq
import Derived.Test.YtfhjncpakgailaaGreatDoorKaK
import Derived.Test.YtfhjncpakgailaaGreatDoorKah
import Derived.Test.YtfhjncpakgailaaGreatDoorKaP
import Derived.Test.YtfhjncpakgailaaGreatDoorKaq
namespace Go.Proofs.YtfhjncpakgailaaGreatDoor.Wt
open Go.ChangeShapes Go.WideShapes Go.ChangeAt Go.RowKit
open Go.Proofs.YtfhjncpakgailaaGreatDoor.Pl
set_option linter.unusedVariables false
set_option linter.unusedSimpArgs false
set_option maxRecDepth 100000 in
set_option maxHeartbeats 1000000 in
theorem sameState_any (f : Int) (v1 v2 : Value) (l : List Ar) (w : World) (h1 : Arcs w v1 l) (h2 : Arcs w v2 l) (hl : l.length ≤ 4398046511104) :
  Calls Tryz.prog 45 #[.agg #[.int .i64 f, v1], .agg #[.int .i64 f, v2]] w fun e w' => e = .returned (.bool true) ∧ Below w.heap.size w w' := by
 obtain ⟨a, cap, rfl, hc⟩ := h1.get
 obtain ⟨a2, cap2, rfl, hc2⟩ := h2.get
 have HC : Hid (∀ j, j < l.length → ∃ b off, a = some ⟨b, off, none⟩ ∧ b < w.heap.size ∧ w.cell? ⟨b, off + j * 4, none⟩ = some (.int .i64 (el l j).1) ∧ w.cell? ⟨b, off + j * 4 + 1, none⟩ = some (.int .i64 (el l j).2.1) ∧ w.cell? ⟨b, off + j * 4 + 2, none⟩ = some (.int .i64 (el l j).2.2.1) ∧ w.cell? ⟨b, off + j * 4 + 3, none⟩ = some (.int .i64 (el l j).2.2.2)) := hc
 have HC2 : Hid (∀ j, j < l.length → ∃ b off, a2 = some ⟨b, off, none⟩ ∧ b < w.heap.size ∧ w.cell? ⟨b, off + j * 4, none⟩ = some (.int .i64 (el l j).1) ∧ w.cell? ⟨b, off + j * 4 + 1, none⟩ = some (.int .i64 (el l j).2.1) ∧ w.cell? ⟨b, off + j * 4 + 2, none⟩ = some (.int .i64 (el l j).2.2.1) ∧ w.cell? ⟨b, off + j * 4 + 3, none⟩ = some (.int .i64 (el l j).2.2.2)) := hc2
 clear h1 h2 hc hc2
 generalize l.length = n at *
 go_enter Tryz.func45, Tryz.ntmps45
 go_wp2
 go_loopw [5] (fun i wr => ∃ k q : Nat, k ≤ n ∧ i = .int .i64 k ∧ wr = ((w.alloc (.cells #[.int .i64 f, .slice a n cap] 56)).alloc (.cells #[.int .i64 f, .slice a2 n cap2] 56)).drewN q) (fun i _ => n - (intOf i).toNat)
 case atStart => exact ⟨0, 0, Nat.zero_le _, rfl, (World.drewN_zero _).symm⟩
 case round =>
  obtain ⟨k, q, hk, rfl, hw⟩ := hrel
  have HW : Hid (wr = ((w.alloc (.cells #[.int .i64 f, .slice a n cap] 56)).alloc (.cells #[.int .i64 f, .slice a2 n cap2] 56)).drewN q) := hw
  have hb : Below w.heap.size w wr := by rw [hw]; exact below_drewN (by go_grown) q
  have c1 : wr.cell? ⟨w.heap.size, 1, none⟩ = some (.slice a n cap) := by rw [hw]; go_cell
  have c2 : wr.cell? ⟨w.heap.size + 1, 1, none⟩ = some (.slice a2 n cap2) := by rw [hw]; go_cell
  clear hw
  by_cases hlt : k < n
  ·obtain ⟨b, off, rfl, hbl, g0, g1, g2, g3⟩ := HC.out k hlt
   obtain ⟨b2, off2, rfl, hbl2, r0, r1, r2, r3⟩ := HC2.out k hlt
   have g0 := (hb.cell (p := ⟨b, off + k * 4, none⟩) hbl).trans g0
   have g1 := (hb.cell (p := ⟨b, off + k * 4 + 1, none⟩) hbl).trans g1
   have g2 := (hb.cell (p := ⟨b, off + k * 4 + 2, none⟩) hbl).trans g2
   have g3 := (hb.cell (p := ⟨b, off + k * 4 + 3, none⟩) hbl).trans g3
   have r0 := (hb.cell (p := ⟨b2, off2 + k * 4, none⟩) hbl2).trans r0
   have r1 := (hb.cell (p := ⟨b2, off2 + k * 4 + 1, none⟩) hbl2).trans r1
   have r2 := (hb.cell (p := ⟨b2, off2 + k * 4 + 2, none⟩) hbl2).trans r2
   have r3 := (hb.cell (p := ⟨b2, off2 + k * 4 + 3, none⟩) hbl2).trans r3
   clear hb hbl hbl2
   generalize el l k = p at *
   obtain ⟨p0, p1, p2, p3⟩ := p
   simp only at g0 g1 g2 g3 r0 r1 r2 r3
   have hk0 : (0 : Int) ≤ (k : Int) := by omega
   have hk1 : (k : Int) < (n : Int) := by omega
   go_wp2
   go_quiet (fail)
   go_wp2
   go_roundw
   case rel => exact ⟨k + 1, q + nq, by omega, by go_num, by rw [HW.out, World.drewN_drewN]⟩
   case measure => simp [intOf]; omega
  ·have hnl : ¬ (k : Int) < (n : Int) := by omega
   go_wp2
   go_ret
   exact ⟨rfl, hb⟩
def HeldL (B b off b2 off2 n cap cap2 k : Nat) (f : Int) (va va2 : Value) (w : World) : Prop :=
 w.cell? ⟨B, 1, none⟩ = some (.slice (some ⟨b, off, none⟩) n cap) ∧ w.cell? ⟨B + 1, 1, none⟩ = some (.slice (some ⟨b2, off2, none⟩) n cap2) ∧ w.cell? ⟨b, off + k * 2, none⟩ = some (.int .i64 f) ∧ w.cell? ⟨b, off + k * 2 + 1, none⟩ = some va ∧ w.cell? ⟨b2, off2 + k * 2, none⟩ = some (.int .i64 f) ∧ w.cell? ⟨b2, off2 + k * 2 + 1, none⟩ = some va2
theorem HeldL.below {B b off b2 off2 n cap cap2 k : Nat} {f : Int} {va va2 : Value} {w w' : World} (h : HeldL B b off b2 off2 n cap cap2 k f va va2 w) (hb : Below w.heap.size w w') : HeldL B b off b2 off2 n cap cap2 k f va va2 w' := by
 obtain ⟨h1, h2, h3, h4, h5, h6⟩ := h
 exact ⟨(hb.cell (World.block_lt_of_cell? _ _ h1)).trans h1, (hb.cell (World.block_lt_of_cell? _ _ h2)).trans h2, (hb.cell (World.block_lt_of_cell? _ _ h3)).trans h3, (hb.cell (World.block_lt_of_cell? _ _ h4)).trans h4, (hb.cell (World.block_lt_of_cell? _ _ h5)).trans h5, (hb.cell (World.block_lt_of_cell? _ _ h6)).trans h6⟩
set_option maxHeartbeats 1000000 in
set_option maxRecDepth 100000 in
theorem keepAlike_any (v1 v2 : Value) (m : Mc) (w : World) (h1 : Mach w v1 m) (h2 : Mach w v2 m) (hok : okM m) :
  Calls Tryz.prog 17 #[v1, v2] w fun e w' => e = .returned (.bool true) ∧ Below w.heap.size w w' := by
 obtain ⟨z, l⟩ := m
 obtain ⟨vs, rfl, hS⟩ := h1
 obtain ⟨vs2, rfl, hS2⟩ := h2
 obtain ⟨a, cap, rfl, hc⟩ := hS.get
 obtain ⟨a2, cap2, rfl, hc2⟩ := hS2.get
 have HC : Hid (∀ j, j < l.length → ∃ b off va, a = some ⟨b, off, none⟩ ∧ b < w.heap.size ∧ w.cell? ⟨b, off + j * 2, none⟩ = some (.int .i64 (el l j).1) ∧ w.cell? ⟨b, off + j * 2 + 1, none⟩ = some va ∧ Arcs w va (el l j).2) := hc
 have HC2 : Hid (∀ j, j < l.length → ∃ b off va, a2 = some ⟨b, off, none⟩ ∧ b < w.heap.size ∧ w.cell? ⟨b, off + j * 2, none⟩ = some (.int .i64 (el l j).1) ∧ w.cell? ⟨b, off + j * 2 + 1, none⟩ = some va ∧ Arcs w va (el l j).2) := hc2
 have hl := hok.1
 have HL : Hid (∀ j, j < l.length → (el l j).2.length ≤ 4398046511104) := fun j hj => by have := hok.2 j hj; simp only at this; omega
 clear hS hS2 hc hc2 hok
 simp only at hl ⊢
 generalize hn : l.length = n at *
 have hnot : ∀ (x : Bool) (w : World), (Op.unary .not (.bool x)).run Tryz.prog w = .ok (.bool (!x)) w := fun _ _ => rfl
 go_enter Tryz.func17, Tryz.ntmps17
 go_wp2
 go_loopw [5] (fun i wr => ∃ k : Nat, k ≤ n ∧ i = .int .i64 k ∧ Hid (Blk wr w.heap.size #[.int .i64 z, .slice a n cap] 29) ∧ Hid (Blk wr (w.heap.size + 1) #[.int .i64 z, .slice a2 n cap2] 29) ∧ Hid (Below w.heap.size w wr)) (fun i _ => n - (intOf i).toNat)
 case atStart => exact ⟨0, Nat.zero_le _, rfl, (Blk.made _ _ _).alloc _, by have h := Blk.made (w.alloc (.cells #[.int .i64 z, .slice a n cap] 29)) #[.int .i64 z, .slice a2 n cap2] 29; simp only [World.size_alloc] at h; exact h, by (show Below _ _ _); go_grown⟩
 case round =>
  obtain ⟨k, hk, rfl, b0, b1, hb⟩ := hrel
  have c1 := b0.out.cell 1 (v := .slice a n cap) rfl
  by_cases hlt : k < n
  ·obtain ⟨b, off, va, rfl, hbl, g0, g1, gA⟩ := HC.out k hlt
   obtain ⟨b2, off2, va2, rfl, hbl2, r0, r1, rA⟩ := HC2.out k hlt
   have HS : HeldL w.heap.size b off b2 off2 n cap cap2 k (el l k).1 va va2 wr.drew := ⟨c1, b1.out.cell 1 rfl, (hb.out.cell (p := ⟨b, off + k * 2, none⟩) hbl).trans g0, (hb.out.cell (p := ⟨b, off + k * 2 + 1, none⟩) hbl).trans g1, (hb.out.cell (p := ⟨b2, off2 + k * 2, none⟩) hbl2).trans r0, (hb.out.cell (p := ⟨b2, off2 + k * 2 + 1, none⟩) hbl2).trans r1⟩
   have GA : Hid (Arcs wr.drew va (el l k).2) := gA.later hb.out.drew (Nat.le_refl _)
   have RA : Hid (Arcs wr.drew va2 (el l k).2) := rA.later hb.out.drew (Nat.le_refl _)
   have HLk : Hid ((el l k).2.length ≤ 4398046511104) := HL.out k hlt
   clear gA rA g0 g1 r0 r1 hbl hbl2
   have hk0 : (0 : Int) ≤ (k : Int) := by omega
   have hk1 : (k : Int) < (n : Int) := by omega
   generalize (el l k).1 = f at *
   go_wp2
   refine region_anyL (HeldL w.heap.size b off b2 off2 n cap cap2 k f va va2) 1000 (by kernel_rfl) ?_
   refine anyL_tk (i := 0) (v := ?v0_1) aZ0 (by kernel_rfl) ?y0_1 HS ?r0_1
   case y0_1 => intro wx hx; obtain ⟨h1, h2, h3, h4, h5, h6⟩ := hx; go_simp; try (with_reducible rfl)
   simp only [Act.put, List.setIfInBounds_toArray, List.set_cons_zero, List.set_cons_succ]
   refine anyL_tk (i := 1) (v := ?v1_2) aZ1 (by kernel_rfl) ?y1_2 HS ?r1_2
   case y1_2 => intro wx hx; obtain ⟨h1, h2, h3, h4, h5, h6⟩ := hx; go_simp; try (with_reducible rfl)
   simp only [Act.put, List.setIfInBounds_toArray, List.set_cons_zero, List.set_cons_succ]
   refine anyL_tk (i := 2) (v := ?v2_3) aZ2 (by kernel_rfl) ?y2_3 HS ?r2_3
   case y2_3 => intro wx hx; obtain ⟨h1, h2, h3, h4, h5, h6⟩ := hx; go_simp; try (with_reducible rfl)
   simp only [Act.put, List.setIfInBounds_toArray, List.set_cons_zero, List.set_cons_succ]
   refine anyL_tk (i := 3) (v := ?v3_4) aZ3 (by kernel_rfl) ?y3_4 HS ?r3_4
   case y3_4 => intro wx hx; obtain ⟨h1, h2, h3, h4, h5, h6⟩ := hx; go_simp; try (with_reducible rfl)
   simp only [Act.put, List.setIfInBounds_toArray, List.set_cons_zero, List.set_cons_succ]
   refine anyL_tk (i := 4) (v := ?v4_5) aZ4 (by kernel_rfl) ?y4_5 HS ?r4_5
   case y4_5 => intro wx hx; obtain ⟨h1, h2, h3, h4, h5, h6⟩ := hx; go_simp; try (with_reducible rfl)
   simp only [Act.put, List.setIfInBounds_toArray, List.set_cons_zero, List.set_cons_succ]
   refine anyL_tk (i := 5) (v := ?v5_6) aZ5 (by kernel_rfl) ?y5_6 HS ?r5_6
   case y5_6 => intro wx hx; obtain ⟨h1, h2, h3, h4, h5, h6⟩ := hx; go_simp; try (with_reducible rfl)
   simp only [Act.put, List.setIfInBounds_toArray, List.set_cons_zero, List.set_cons_succ]
   refine anyL_tk (i := 6) (v := ?v6_7) aZ6 (by kernel_rfl) ?y6_7 HS ?r6_7
   case y6_7 => intro wx hx; obtain ⟨h1, h2, h3, h4, h5, h6⟩ := hx; go_simp; try (with_reducible rfl)
   simp only [Act.put, List.setIfInBounds_toArray, List.set_cons_zero, List.set_cons_succ]
   refine anyL_tk (i := 7) (v := ?v7_8) aZ7 (by kernel_rfl) ?y7_8 HS ?r7_8
   case y7_8 => intro wx hx; obtain ⟨h1, h2, h3, h4, h5, h6⟩ := hx; go_simp; try (with_reducible rfl)
   simp only [Act.put, List.setIfInBounds_toArray, List.set_cons_zero, List.set_cons_succ]
   refine anyL_tk (i := 8) (v := ?v8_9) aZ8 (by kernel_rfl) ?y8_9 HS ?r8_9
   case y8_9 => intro wx hx; obtain ⟨h1, h2, h3, h4, h5, h6⟩ := hx; go_simp; try (with_reducible rfl)
   simp only [Act.put, List.setIfInBounds_toArray, List.set_cons_zero, List.set_cons_succ]
   refine anyL_tk (i := 9) (v := ?v9_10) aZ9 (by kernel_rfl) ?y9_10 HS ?r9_10
   case y9_10 => intro wx hx; obtain ⟨h1, h2, h3, h4, h5, h6⟩ := hx; go_simp; try (with_reducible rfl)
   simp only [Act.put, List.setIfInBounds_toArray, List.set_cons_zero, List.set_cons_succ]
   refine anyL_one (i := 10) aZ10 (by kernel_rfl) rfl (fun K hK => ?_)
   go_simp
   refine (sameState_any f va va2 _ _ GA.out RA.out HLk.out).mono ?_
   rintro e w2 ⟨rfl, hb2⟩
   have hbA : Below wr.heap.size wr w2 := ⟨hb2.os, hb2.tape, hb2.output, hb2.size, hb2.block⟩
   have HS2 : HeldL w.heap.size b off b2 off2 n cap cap2 k f va va2 w2 := HS.below hb2
   refine hK _ _ (.inr HS2) ?_
   try simp only [Act.put, List.setIfInBounds_toArray, List.set_cons_zero, List.set_cons_succ]
   refine anyL_tk (i := 11) (v := ?v11_11) aZ11 (by kernel_rfl) ?y11_11 HS2 ?r11_11
   case y11_11 => intro wx hx; obtain ⟨h1, h2, h3, h4, h5, h6⟩ := hx; go_simp; try (with_reducible rfl)
   simp only [Act.put, List.setIfInBounds_toArray, List.set_cons_zero, List.set_cons_succ]
   refine anyL_done (by kernel_rfl) (NoPanic.normal ?_)
   have E0 : Hid (Blk w2 w.heap.size #[.int .i64 z, .slice (some ⟨b, off, none⟩) n cap] 29) := b0.out.below hbA b0.out.lt
   have E1 : Hid (Blk w2 (w.heap.size + 1) #[.int .i64 z, .slice (some ⟨b2, off2, none⟩) n cap2] 29) := b1.out.below hbA b1.out.lt
   have E2 : Hid (Below w.heap.size w w2) := hb.out.trans (hbA.mono hb.out.size)
   clear HS HS2 hb2 hbA b0 b1 hb c1 GA RA
   go_wp2
   go_roundw
   case rel => exact ⟨k + 1, by omega, by go_num, E0, E1, E2⟩
   case measure => simp [intOf]; omega
  ·have hnl : ¬ (k : Int) < (n : Int) := by omega
   go_wp2
   go_ret
   exact ⟨rfl, hb.out⟩
theorem least_cst (v : Value) (m : Mc) (w : World) (h : Mach w v m) (hr : faultM m = 0) (hc : CheapL m.2) (hz : 0 ≤ m.1) : Calls Tryz.prog 16 #[v] w fun e w' => ∃ x : Int, e = .returned (.tuple #[.int .i64 x, .int .i64 0]) ∧ CstIs (EndC m.2 m.1.toNat) x ∧ Below w.heap.size w w' := by
 refine (leastP_any v m w h (right_ok hr)).mono ?_
 rintro e w' ⟨x, ec, rfl, hq, hb⟩
 obtain ⟨rfl, h1⟩ := lpa_cst hr hc hz hq
 exact ⟨x, rfl, h1, hb⟩
end Go.Proofs.YtfhjncpakgailaaGreatDoor.Wt
namespace Go.Proofs.YtfhjncpakgailaaGreatDoor.Pl
set_option linter.unusedVariables false
set_option linter.unusedSimpArgs false
theorem Bis.run {z : Int} {k l : List St} {R : Nat → Nat → Prop} (h : Bis k l R) (hl : faultM (z, l) = 0) {q p n t c : Nat} (hR : R q p) (hr : Run (ArcE k) q n t c) : ∃ u, Run (ArcE l) p n u c ∧ R t u := by
  induction hr with
  | nil => exact ⟨p, .nil, hR⟩
  | @step n t c w j hr e ih =>
    obtain ⟨u, h1, h2⟩ := ih
    obtain ⟨a, ha, e1, e2⟩ := e
    obtain ⟨i, hi, rfl⟩ := mem_el ha
    have hd := h.dif t u h2
    have hi2 : i < (el l u).2.length := by rw [← dif_len hd]; exact hi
    obtain ⟨v, hv, hvl⟩ := to_of hl u (h.rng t u h2).2 _ (el_mem hi2)
    have hw := (dif_el hd hi).2.2
    exact ⟨v, .step h1 ⟨_, el_mem hi2, hv, by rw [e2, hw]⟩, h.arc t u h2 i j v hi e1 hv⟩
theorem Bis.ends1 {z : Int} {k l : List St} {R : Nat → Nat → Prop} (h : Bis k l R) (hl : faultM (z, l) = 0) {q p c : Nat} (hR : R q p) (he : EndC k q c) : EndC l p c := by
 obtain ⟨n, t, d, hr, ht, hn, rfl⟩ := he
 obtain ⟨u, h1, h2⟩ := h.run hl hR hr
 have hd := (dif_false.1 (h.dif t u h2)).1
 exact ⟨n, u, d, h1, (h.rng t u h2).2, by rw [← hd]; exact hn, by rw [hd]⟩
theorem Bis.ends {y z : Int} {k l : List St} {R : Nat → Nat → Prop} (h : Bis k l R) (hk : faultM (y, k) = 0) (hl : faultM (z, l) = 0) {q p : Nat} (hR : R q p) (c : Nat) : EndC k q c ↔ EndC l p c :=
 ⟨h.ends1 hl hR, h.symm.ends1 hk hR⟩
theorem back_of {l : List St} {bs : List Bool} (hto : ∀ q, q < l.length → ∀ a ∈ (el l q).2, ∃ t : Nat, a.2.2.2 = (t : Int) ∧ t < l.length) (hB : Least (BackC l) l.length bs) {q c : Nat} (hq : q < l.length) (h : EndC l q c) : el bs q = true := by
  obtain ⟨n, p, d, hr, hp, hn, _⟩ := h
  have key : ∀ {n t d}, Run (ArcE l) q n t d → t < l.length ∧ (el bs t = true → el bs q = true) := by
    intro n t d hr
    induction hr with
    | nil => exact ⟨hq, id⟩
    | @step n t c w j hr e ih =>
      obtain ⟨a, ha, e1, _⟩ := e
      obtain ⟨t', h1, h2⟩ := hto _ ih.1 a ha
      refine ⟨by omega, fun hj => ih.2 (hB.2.1.2 _ ih.1 a ha ?_)⟩
      rw [e1, Int.toNat_natCast]
      exact hj
  exact (key hr).2 (hB.2.1.1 p hp hn)
theorem all_rep {n : Nat} {bs : List Bool} (h : bs.length = n) (k : ∀ q, q < n → el bs q = true) : bs = List.replicate n true := by
 refine el_ext (by simp [h]) fun j hj => ?_
 rw [k j (by omega)]
 exact (el_true.2 (by omega)).symm
theorem lst_allA {z : Int} {l : List St} {f : Nat → Nat} (hr : faultM (z, l) = 0) (hf : FstC l f) {s : Nat} (hs : s < l.length) {x : Mc} (h : lstA l f s = (x, 0)) {aa : List Bool} (hA : Least (AheadC x.1 x.2) x.2.length aa) : aa = List.replicate x.2.length true := by
  obtain ⟨h1, L, hE, hL⟩ := lst_exp hr hf hs h
  have hlen := hE.len
  refine all_rep hA.1 fun i hi => ?_
  induction i using Nat.strongRecOn with
  | _ i ih =>
    by_cases h0 : i = 0
    · subst h0
      exact hA.2.1.1 0 hi (by rw [h1]; rfl)
    · obtain ⟨j, g, hj, _, hg, e⟩ := hE.led i (by omega) (by omega)
      have h2 := hA.2.1.2 j (by omega) (ih j hj (by omega)) (arcG L g) (by rw [hE.sts j (by omega)]; exact List.mem_map.2 ⟨g, hg, rfl⟩)
      simp only [arcG] at h2
      rw [e, Int.toNat_natCast] at h2
      have hiL : i < L.length := by omega
      have h3 : ∀ k, k < L.length → el L k = el L i → k = i := fun k hk e => by
        rw [el_get hk, el_get hiL] at e
        exact (List.getElem_inj hE.nodup).1 e
      have h4 := el_idxG (el_mem (l := L) hiL)
      rw [h3 _ h4.1 h4.2] at h2
      exact h2
theorem DstAns.zeros {m : Mc} {us : List Int} {e : Int} (hf : faultM m = 0) (h0 : ∀ q, q < m.2.length → LeastP (EndC m.2 q) 0) (h : DstAns m (EndC m.2) us e) : e = 0 ∧ ∀ q, q < m.2.length → el us q = 0 := by
 rcases h with ⟨k, _⟩ | ⟨_, ⟨k1, k2, k3⟩ | ⟨_, _, q, hq, k⟩⟩
 ·exact absurd hf k
 ·refine ⟨k1, fun q hq => ?_⟩
  rcases k3 q hq with ⟨g, _⟩ | ⟨c, hc, ⟨_, g, _⟩ | ⟨g, _⟩⟩
  ·exact absurd (h0 q hq).1 (g 0)
  ·have := hc.2 0 (h0 q hq).1
   omega
  ·have := hc.2 0 (h0 q hq).1
   omega
 ·rcases k with ⟨g, _⟩ | ⟨c, hc, ⟨_, _, g⟩ | ⟨g, _⟩⟩
  ·exact absurd (h0 q hq).1 (g 0)
  ·cases g
  ·have := hc.2 0 (h0 q hq).1
   omega
theorem srt_up {l : List Ar} (h : (lbs l).Nodup) : (lbs (sortS false l)).Pairwise ltP := by
 have h1 := sortL_pair l
 have h2 : (lbs (sortS false l)).Nodup := ((sortS_perm false l).map _).nodup_iff.2 h
 have h3 : (sortS false l).Pairwise fun a b => leB a b = true := h1
 unfold lbs at h2 ⊢
 rw [List.nodup_iff_pairwise_ne, List.pairwise_map] at h2
 rw [List.pairwise_map]
 refine List.Pairwise.imp ?_ (List.Pairwise.and h3 h2)
 rintro a b ⟨g1, g2⟩
 simp only [leB, Bool.not_eq_true', aheadB_false] at g1
 simp only [ne_eq, Prod.mk.injEq] at g2
 unfold ltP
 simp only
 omega
theorem up_srt {l : List Ar} (h : (lbs l).Pairwise ltP) : sortS false l = l := by
 refine (sortL_one (List.Perm.refl l) ?_).symm
 unfold lbs at h
 rw [List.pairwise_map] at h
 refine h.imp fun {a b} g => ?_
 unfold ltP at g
 simp only [leB, Bool.not_eq_true', aheadB_false]
 simp only at g
 omega
theorem run_srt {p : Mc} {q n t c : Nat} : Run (ArcE (srtM p).2) q n t c ↔ Run (ArcE p.2) q n t c := by
 have hm : ∀ k (a : Ar), a ∈ (el (srtM p).2 k).2 ↔ a ∈ (el p.2 k).2 := fun k a => by
  rcases Nat.lt_or_ge k p.2.length with g | g
  ·rw [srt_el g]; exact (sortS_perm false _).mem_iff
  ·have e1 : el (srtM p).2 k = default := by simp [el, srt_len, g]
   have e2 : el p.2 k = default := by simp [el, g]
   rw [e1, e2]
 constructor
 ·intro h
  induction h with
  | nil => exact .nil
  | step h e ih => obtain ⟨a, ha, e1, e2⟩ := e; exact .step ih ⟨a, (hm _ a).1 ha, e1, e2⟩
 ·intro h
  induction h with
  | nil => exact .nil
  | step h e ih => obtain ⟨a, ha, e1, e2⟩ := e; exact .step ih ⟨a, (hm _ a).2 ha, e1, e2⟩
theorem end_srt {p : Mc} {q c : Nat} : EndC (srtM p).2 q c ↔ EndC p.2 q c := by
 have hf : ∀ k, k < p.2.length → (el (srtM p).2 k).1 = (el p.2 k).1 := fun k hk => by rw [srt_el hk]
 constructor
 ·rintro ⟨n, t, d, hr, ht, hn, rfl⟩
  rw [srt_len] at ht
  rw [hf t ht] at hn ⊢
  exact ⟨n, t, d, run_srt.1 hr, ht, hn, rfl⟩
 ·rintro ⟨n, t, d, hr, ht, hn, rfl⟩
  exact ⟨n, t, d, run_srt.2 hr, by rw [srt_len]; exact ht, by rw [hf t ht]; exact hn, by rw [hf t ht]⟩
theorem SmlU.again {m x : Mc} {tot : Int} {p T : Mc} {vs : List Int} (h : SmlU m x tot p T vs) {y : Mc} {t e : Int} (hy : SmlAns x y t e) : e = 0 ∧ t = 0 ∧ (0 ≤ x.1 → y = x) := by
 have hrx := h.right
 obtain ⟨c1, c2⟩ := crt_iff.1 h.certain
 rcases hy with ⟨k, _⟩ | ⟨_, k, _⟩ | ⟨_, _, k, _⟩ | ⟨_, _, _, p', t', e', hP, hy⟩
 ·exact absurd hrx k
 ·rw [c1] at k; cases k
 ·rw [c2] at k; cases k
 rcases h.way with ⟨w1, w2, w3, w4⟩ | ⟨w0, w2, f, hf, hl⟩
 ·have hx1 : x.1 < 0 := by rw [w3]; exact w1
  have hx2 : x.2 = [] := by rw [w3]
  obtain ⟨he, hp1⟩ : e' = 0 ∧ p'.1 < 0 := by
   rcases hP with ⟨k, _⟩ | ⟨_, aa, bs, us, e0, hA, hB, hD, hP⟩
   ·exact absurd hrx k
   ·obtain ⟨xz, xl⟩ := x
    obtain ⟨tz, tl, hT, hfT, hAT, hBT, hST, hz, hlen⟩ := trimmed_facts hrx hA hB
    have hT' : trmM (xz, xl) aa bs = (tz, tl) := hT
    rw [hT'] at hD hP
    simp only at hx2
    have h0 : tl.length = 0 := by rw [hx2] at hlen; simpa using hlen
    have htz : tz < 0 := hz.2 h0
    have he0 : e0 = 0 := (DstAns.zeros (m := (tz, tl)) hfT (fun q hq => absurd hq (by simp only; omega)) hD).1
    have hO : pshO us tl = false := by
     unfold pshO
     rw [h0]
     rfl
    rcases hP with ⟨k, _⟩ | ⟨_, k, _⟩ | ⟨_, _, k1, k2, k3⟩
    ·exact absurd he0 k
    ·simp only at k; rw [hO] at k; cases k
    ·exact ⟨k3, by rw [k1]; exact htz⟩
  rcases hy with ⟨k, _⟩ | ⟨_, _, _, k1, k2⟩ | ⟨_, k, _⟩
  ·exact absurd he k
  ·exact ⟨k2, k1, fun k => by omega⟩
  ·omega
 ·have hrs := srt_right h.psh.rightx
  obtain ⟨_, hx0, hx1⟩ := lst_right (z := p.1) (l := (srtM p).2) hrs hf w2 hl
  obtain ⟨R, hB0, h0R, hRall⟩ := lst_going (z := p.1) (l := (srtM p).2) hrs hf w2 hl
  have hz0 : ∀ q, q < x.2.length → LeastP (EndC x.2 q) 0 := fun i hi => by
   obtain ⟨q, hq⟩ := hRall i hi
   have h1 := fun c => hB0.ends (y := x.1) (z := p.1) hrx hrs hq c
   have h2 := h.psh.zero (q := q) (by have := (hB0.rng i q hq).2; rw [srt_len] at this; exact this)
   exact ⟨(h1 0).2 (end_srt.2 h2.1), fun d hd => Nat.zero_le _⟩
  obtain ⟨rfl, rfl, rfl⟩ : e' = 0 ∧ t' = 0 ∧ p' = x := by
   rcases hP with ⟨k, _⟩ | ⟨_, aa, bs, us, e0, hA, hB, hD, hP⟩
   ·exact absurd hrx k
   ·have ea := lst_allA (z := p.1) (l := (srtM p).2) hrs hf w2 hl hA
    have eb : bs = List.replicate x.2.length true := all_rep hB.1 fun q hq => back_of (to_of (z := x.1) hrx) hB hq (hz0 q hq).1
    have hT : trmM x aa bs = x := by
     rw [ea, eb]
     obtain ⟨a, b⟩ := x
     exact trim_all hrx
    rw [hT] at hD hP
    obtain ⟨he0, hu⟩ := hD.zeros hrx hz0
    obtain ⟨s1, s2, s3⟩ := psh_stays hrx (vs := us) hu
    rcases hP with ⟨k, _⟩ | ⟨_, k, _⟩ | ⟨_, _, k1, k2, k3⟩
    ·exact absurd he0 k
    ·rw [s2] at k; cases k
    ·exact ⟨k3, by rw [k2, s3], by rw [k1, s1]⟩
  have hsx : srtM p' = p' := by
   obtain ⟨a, b⟩ := p'
   unfold srtM mapM
   congr 1
   simp only
   refine el_ext (by simp) fun i hi => ?_
   simp only [List.length_map] at hi
   rw [el_map hi]
   obtain ⟨q, hq, _, e⟩ := lst_labs (z := p.1) (l := (srtM p).2) hrs hf w2 hl hi
   have e2 : lbs (el b i).2 = lbs (el (srtM p).2 q).2 := by
    have := congrArg (List.map fun b : Int × Int × Int => (b.1, b.2.1)) e
    simpa [lbs, List.map_map, Function.comp_def] using this
   have hq' : q < p.2.length := by rw [srt_len] at hq; exact hq
   have h3 : (lbs (el b i).2).Pairwise ltP := by
    rw [e2, srt_el hq']
    refine srt_up ?_
    have h4 := (h.crt _ (el_mem hq)).1
    rw [srt_el hq'] at h4
    exact ((sortS_perm false _).map _).nodup_iff.1 h4
   rw [up_srt h3]
  rcases hy with ⟨k, _⟩ | ⟨_, k, _⟩ | ⟨_, _, ⟨f', hf', hl'⟩, k1, k2⟩
  ·exact absurd rfl k
  ·omega
  ·refine ⟨k2, k1, fun _ => ?_⟩
   rw [hsx, hx1] at hl'
   rw [hsx] at hf'
   have h5 := lst_again (z := p.1) (l := (srtM p).2) hrs hf w2 hl hf'
   have h6 : lstA p'.2 f' 0 = (y, 0) := hl'
   rw [h5] at h6
   exact (congrArg Prod.fst h6).symm
end Go.Proofs.YtfhjncpakgailaaGreatDoor.Pl
