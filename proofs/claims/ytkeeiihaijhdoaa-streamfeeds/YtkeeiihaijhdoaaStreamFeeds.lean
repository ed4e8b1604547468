/- The statement StreamFeeds: whatever machine, run and labels are given, the program's Feed and the document's answer agree and no argument is changed, for every input and without any condition. -/
import Derived.Test.YtkeeiihaijhdoaaFae
import Derived.Test.YtkeeiihaijhdoaaFam
import Derived.Test.YtkeeiihaijhdoaaFas
import Derived.Test.YtkeeiihaijhdoaaFat
import Derived.Test.YtkeeiihaijhdoaaFab
import Derived.Test.YtkeeiihaijhdoaaFac
import Derived.Lib.SmallJoins
import Derived.ChangeOld
import Derived.Below
namespace Go.Proofs.Ytkeeiihaijhdoaa.streamFeeds
open Go.ChangeShapes Go.WideShapes Go.ChangeAt Go.RowKit
open Go.Proofs.Ytkeeiihaijhdoaa.Pl Go.Proofs.Ytkeeiihaijhdoaa.Wt Go.Proofs.Ytkeeiihaijhdoaa.Sm
set_option linter.unusedVariables false
set_option linter.unusedSimpArgs false
theorem own : ownKnob Try.prog.godebug = none := by kernel_rfl
theorem laidOut : laidOutB Try.prog = true := by kernel_rfl
def HeldMRX (b d : Nat) (x0 x1 y0 y1 : Value) (w : World) : Prop := w.cell? ⟨b, 0, none⟩ = some x0 ∧ w.cell? ⟨b, 1, none⟩ = some x1 ∧ w.cell? ⟨d, 0, none⟩ = some y0 ∧ w.cell? ⟨d, 1, none⟩ = some y1
theorem feedR_any (v vr vx : Value) (m : Mc) (r : Ru) (x : List Int) (w : World) (h : Mach w v m) (hok : okM m) (hr : RunV w vr r) (hou : okU r) (hx : Nums w vx x) (hxl : x.length ≤ 17592186044000) :
  Calls Try.prog 17 #[v, vr, vx] w fun e w' => ∃ s ec, FedAns m r x s ec ∧ RunRes s ec w e w' := by
 by_cases hc : chkA m r = 0
 ·obtain ⟨hf, hrun⟩ := chk_ok hc
  exact feedR_good v vr vx m r x w h hok hr hou hx hxl hf hrun
 ·exact feedR_bad v vr vx m r x w h hok hr hou hx hxl hc
set_option maxRecDepth 100000 in
set_option maxHeartbeats 4000000 in
theorem core (v : Value) (m : Mc) (vr : Value) (r : Ru) (vx : Value) (x : List Int) (w : World) (h : Mach w v m) (hok : okM m) (hr : RunV w vr r) (hou : okU r) (hx : Nums w vx x) (hxl : x.length * 8 ≤ 140737488351232) :
  Calls Try.prog 4 #[v, vr, vx] w fun e w' => e = .returned (.bool true) ∧ Below w.heap.size w w' := by
 have HI := hidP h
 have HK := hidP hok
 have HR := hidP hr
 have HO := hidP hou
 have HX := hidP hx
 have HXL := hidP hxl
 have HX4 : Hid (x.length ≤ 17592186044000) := by show _ ≤ _; omega
 have HX5 : Hid (x.length ≤ 17592186044416) := by show _ ≤ _; omega
 obtain ⟨vs, rfl, hS⟩ := h
 obtain ⟨a, cap, rfl⟩ := hS.sl
 obtain ⟨vm, rfl, hMk⟩ := hr
 obtain ⟨am, cm, rfl⟩ := hMk.sl
 obtain ⟨ax, cx, rfl⟩ := Row.sl hx
 clear hS hok hou hMk hx hxl
 have HU : Hid (Below w.heap.size w ((w.alloc (.cells #[.int .i64 m.1, .slice a m.2.length cap] 24)).alloc (.cells #[.int .i64 r.1, .slice am r.2.length cm] 28))) := by show Below _ _ _; go_grown
 go_enter Try.func4, Try.ntmps4
 go_wp2_with (first
  | (go_at_call 14; (with_reducible refine (runs_any _ r _ (HR.out.later HU.out (Nat.le_refl _)) HO.out).mono ?_); rintro e w1 ⟨v1, rfl, hq, hb⟩; have HQ := hidP hq; obtain ⟨vm1, rfl, hMk⟩ := hq; obtain ⟨a1, c1, rfl⟩ := hMk.sl; clear hMk; obtain ⟨s1, b1, b2, hb1⟩ := boxedTwo hb (by simp); have BMa := hidP (b1.alloc (.cells #[.int .i64 r.1, .slice a1 r.2.length c1] 28)); have BRa := hidP (b2.alloc (.cells #[.int .i64 r.1, .slice a1 r.2.length c1] 28)); have BCa : Hid (Blk (w1.alloc (.cells #[.int .i64 r.1, .slice a1 r.2.length c1] 28)) w1.heap.size #[.int .i64 r.1, .slice a1 r.2.length c1] 28) := Blk.made w1 _ _; have HWa : Hid (Below w.heap.size w (w1.alloc (.cells #[.int .i64 r.1, .slice a1 r.2.length c1] 28))) := hb1.trans (((Below.refl _ _).alloc (Nat.le_refl _) _).mono hb1.size); have HQa : Hid (RunV (w1.alloc (.cells #[.int .i64 r.1, .slice a1 r.2.length c1] 28)) (.agg #[.int .i64 r.1, .slice a1 r.2.length c1]) r) := HQ.out.later ((Below.refl _ _).alloc (Nat.le_refl _) _) (Nat.le_refl _); clear hb hb1 b1 b2 HQ)
  | (go_at_call 15; (with_reducible refine (ints_own _ x _ (HX.out.later HWa.out (Nat.le_refl _)) HXL.out).mono ?_); rintro e w2 ⟨v8, rfl, ho, hb⟩; have HX8 : Hid (Nums w2 v8 x) := ho.nums; obtain ⟨a8, c8, rfl⟩ := ho.sl; have BMb := hidP (BMa.out.below hb BMa.out.lt); have BRb := hidP (BRa.out.below hb BRa.out.lt); have BCb := hidP (BCa.out.below hb BCa.out.lt); have HWb : Hid (Below w.heap.size w w2) := HWa.out.trans (hb.mono HWa.out.size); have HQb := hidP (HQa.out.later hb (Nat.le_refl _)); clear hb ho BMa BRa BCa HWa HQa))
 have HWW : Hid (Below w.heap.size w w2.drew) := HWb.out.drew
 have BM2 := hidP BMb.out.drew
 have BR2 := hidP BRb.out.drew
 have BC2 := hidP BCb.out.drew
 have HQ2 : Hid (RunV w2.drew (.agg #[.int .i64 r.1, .slice a1 r.2.length c1]) r) := HQb.out.later ((Below.refl _ _).drew) (Nat.le_refl _)
 have HY2 : Hid (Nums w2.drew (.slice a8 x.length c8) x) := HX8.out.later ((Below.refl _ _).drew) (Nat.le_refl _)
 have HS : HeldMRX w.heap.size w1.heap.size (.int .i64 m.1) (.slice a m.2.length cap) (.int .i64 r.1) (.slice a1 r.2.length c1) w2.drew := ⟨BM2.out.cell 0 rfl, BM2.out.cell 1 rfl, BC2.out.cell 0 rfl, BC2.out.cell 1 rfl⟩
 clear HWb BMb BRb BCb HQb HX8
 refine region_anyL (HeldMRX w.heap.size w1.heap.size (.int .i64 m.1) (.slice a m.2.length cap) (.int .i64 r.1) (.slice a1 r.2.length c1)) 100 (by kernel_rfl) ?_
 generalize w2.drew = W2 at *
 refine anyL_tk (i := 0) (v := ?v0_1) aZ0 (by kernel_rfl) ?y0_1 HS ?r0_1
 case y0_1 => intro wx hx; obtain ⟨h0, h1, h2, h3⟩ := hx; go_simp; try (with_reducible rfl)
 simp only [Act.put, List.setIfInBounds_toArray, List.set_cons_zero, List.set_cons_succ]
 refine anyL_tk (i := 2) (v := ?v2_2) aZ2 (by kernel_rfl) ?y2_2 HS ?r2_2
 case y2_2 => intro wx hx; obtain ⟨h0, h1, h2, h3⟩ := hx; go_simp; try (with_reducible rfl)
 simp only [Act.put, List.setIfInBounds_toArray, List.set_cons_zero, List.set_cons_succ]
 refine anyL_tk (i := 3) (v := ?v3_3) aZ3 (by kernel_rfl) ?y3_3 HS ?r3_3
 case y3_3 => intro wx hx; obtain ⟨h0, h1, h2, h3⟩ := hx; go_simp; try (with_reducible rfl)
 simp only [Act.put, List.setIfInBounds_toArray, List.set_cons_zero, List.set_cons_succ]
 refine anyL_br (rs := [1, 8]) (by kernel_rfl) (by simp) (List.forall_mem_cons.2 ⟨⟨_, aZ1, rfl, fun K hK => ?_⟩, List.forall_mem_cons.2 ⟨⟨_, aZ8, rfl, fun K hK => ?_⟩, by simp⟩⟩)
 ·have HD : Hid (Below W2.heap.size W2 W2) := Below.refl _ _
  have HWD := HWW
  go_simp
  with_reducible refine (machine_any _ m _ (HI.out.later HWD.out (Nat.le_refl _)) HK.out).mono ?_
  rintro e w3 ⟨v3, rfl, hi, hb3⟩
  have HI3 := hidP hi
  have HB3 := hidP hb3
  obtain ⟨vs3, rfl, hS3⟩ := hi
  obtain ⟨a3, cap3, rfl⟩ := hS3.sl
  clear hS3 hb3
  have HB23 : Hid (Below W2.heap.size W2 w3) := HD.out.trans (HB3.out.mono HD.out.size)
  have HW2 := hidP HWW.out
  have BM3 := hidP (BM2.out.below HB23.out BM2.out.lt)
  have BR3 := hidP (BR2.out.below HB23.out BR2.out.lt)
  have BC3 := hidP (BC2.out.below HB23.out BC2.out.lt)
  have HQ3 : Hid (RunV _ (.agg #[.int .i64 r.1, .slice a1 r.2.length c1]) r) := HQ2.out.later HB23.out (Nat.le_refl _)
  have HY3 : Hid (Nums _ (.slice a8 x.length c8) x) := HY2.out.later HB23.out (Nat.le_refl _)
  have HW3 : Hid (Below w.heap.size w _) := HW2.out.trans (HB23.out.mono HW2.out.size)
  have HS3 : HeldMRX w.heap.size w1.heap.size (.int .i64 m.1) (.slice a m.2.length cap) (.int .i64 r.1) (.slice a1 r.2.length c1) w3 := ⟨BM3.out.cell 0 rfl, BM3.out.cell 1 rfl, BC3.out.cell 0 rfl, BC3.out.cell 1 rfl⟩
  refine hK _ _ (.inr HS3) ?_
  try simp only [Act.put, List.setIfInBounds_toArray, List.set_cons_zero, List.set_cons_succ]
  refine anyL_br (rs := [4, 8]) (by kernel_rfl) (by simp) (List.forall_mem_cons.2 ⟨⟨_, aZ4, rfl, fun K hK => ?_⟩, List.forall_mem_cons.2 ⟨⟨_, aZ8, rfl, fun K hK => ?_⟩, by simp⟩⟩)
  ·have HE : Hid (Below w3.heap.size w3 w3) := Below.refl _ _
   go_simp
   with_reducible refine (feedP_any _ _ _ m r x _ (HI3.out.later HE.out (Nat.le_refl _)) HK.out (HQ3.out.later HE.out (Nat.le_refl _)) HO.out (HY3.out.later HE.out (Nat.le_refl _)) HX4.out).mono ?_
   rintro e w4 ⟨⟨rf, rl⟩, ec, hans, v4, rfl, hr4, hb4⟩
   have HA4 := hidP hans
   have HB4 := hidP hb4
   obtain ⟨vs4, rfl, hm4⟩ := hr4
   simp only at hm4
   obtain ⟨a4, c4, rfl⟩ := hm4.sl
   have HZ4 : Hid (RunV w4 (.agg #[.int .i64 rf, .slice a4 rl.length c4]) (rf, rl)) := ⟨_, rfl, hm4⟩
   clear hans hm4 hb4
   have HB34 : Hid (Below w3.heap.size w3 w4) := HE.out.trans (HB4.out.mono HE.out.size)
   have BM4 := hidP (BM3.out.below HB34.out BM3.out.lt)
   have BR4 := hidP (BR3.out.below HB34.out BR3.out.lt)
   have BC4 := hidP (BC3.out.below HB34.out BC3.out.lt)
   have HQ4 : Hid (RunV _ (.agg #[.int .i64 r.1, .slice a1 r.2.length c1]) r) := HQ3.out.later HB34.out (Nat.le_refl _)
   have HY4 : Hid (Nums _ (.slice a8 x.length c8) x) := HY3.out.later HB34.out (Nat.le_refl _)
   have HW4 : Hid (Below w.heap.size w _) := HW3.out.trans (HB34.out.mono HW3.out.size)
   have HS4 : HeldMRX w.heap.size w1.heap.size (.int .i64 m.1) (.slice a m.2.length cap) (.int .i64 r.1) (.slice a1 r.2.length c1) w4 := ⟨BM4.out.cell 0 rfl, BM4.out.cell 1 rfl, BC4.out.cell 0 rfl, BC4.out.cell 1 rfl⟩
   refine hK _ _ (.inr HS4) ?_
   try simp only [Act.put, List.setIfInBounds_toArray, List.set_cons_zero, List.set_cons_succ]
   refine anyL_tk (i := 5) (v := ?v5_4) aZ5 (by kernel_rfl) ?y5_4 HS4 ?r5_4
   case y5_4 => intro wx hx; obtain ⟨h0, h1, h2, h3⟩ := hx; go_simp; try (with_reducible rfl)
   simp only [Act.put, List.setIfInBounds_toArray, List.set_cons_zero, List.set_cons_succ]
   refine anyL_tk (i := 6) (v := ?v6_5) aZ6 (by kernel_rfl) ?y6_5 HS4 ?r6_5
   case y6_5 => intro wx hx; obtain ⟨h0, h1, h2, h3⟩ := hx; go_simp; try (with_reducible rfl)
   simp only [Act.put, List.setIfInBounds_toArray, List.set_cons_zero, List.set_cons_succ]
   refine anyL_tk (i := 7) (v := ?v7_6) aZ7 (by kernel_rfl) ?y7_6 HS4 ?r7_6
   case y7_6 => intro wx hx; obtain ⟨h0, h1, h2, h3⟩ := hx; go_simp; try (with_reducible rfl)
   simp only [Act.put, List.setIfInBounds_toArray, List.set_cons_zero, List.set_cons_succ]
   refine anyL_one (i := 8) aZ8 (by kernel_rfl) rfl (fun K hK => ?_)
   go_simp
   have hbA : Below w4.heap.size w4 (w4.alloc (.cells #[.int .i64 0, .slice none 0 0] 28)) := (Below.refl _ _).alloc (Nat.le_refl _) _
   refine hK _ _ (.inr ⟨low HS4.1 hbA, low HS4.2.1 hbA, low HS4.2.2.1 hbA, low HS4.2.2.2 hbA⟩) ?_
   try simp only [Act.put, List.setIfInBounds_toArray, List.set_cons_zero, List.set_cons_succ]
   refine anyL_one (i := 9) aZ9 (by kernel_rfl) rfl (fun K hK => ?_)
   go_simp
   have HBF : Hid (Below w4.heap.size w4 (w4.alloc (.cells #[.int .i64 rf, .slice a4 rl.length c4] 28))) := (Below.refl _ _).alloc (Nat.le_refl _) _
   have BF9 : Hid (Blk (w4.alloc (.cells #[.int .i64 rf, .slice a4 rl.length c4] 28)) w4.heap.size #[.int .i64 rf, .slice a4 rl.length c4] 28) := Blk.made w4 _ _
   have HZ9 := hidP (HZ4.out.later HBF.out (Nat.le_refl _))
   have BM9 := hidP (BM4.out.below HBF.out BM4.out.lt)
   have BR9 := hidP (BR4.out.below HBF.out BR4.out.lt)
   have BC9 := hidP (BC4.out.below HBF.out BC4.out.lt)
   have HQ9 : Hid (RunV _ (.agg #[.int .i64 r.1, .slice a1 r.2.length c1]) r) := HQ4.out.later HBF.out (Nat.le_refl _)
   have HY9 : Hid (Nums _ (.slice a8 x.length c8) x) := HY4.out.later HBF.out (Nat.le_refl _)
   have HW9 : Hid (Below w.heap.size w _) := HW4.out.trans (HBF.out.mono HW4.out.size)
   have HS9 : HeldMRX w.heap.size w1.heap.size (.int .i64 m.1) (.slice a m.2.length cap) (.int .i64 r.1) (.slice a1 r.2.length c1) (w4.alloc (.cells #[.int .i64 rf, .slice a4 rl.length c4] 28)) := ⟨BM9.out.cell 0 rfl, BM9.out.cell 1 rfl, BC9.out.cell 0 rfl, BC9.out.cell 1 rfl⟩
   refine hK _ _ (.inr HS9) ?_
   try simp only [Act.put, List.setIfInBounds_toArray, List.set_cons_zero, List.set_cons_succ]
   refine anyL_tk (i := 10) (v := ?v10_7) aZ10 (by kernel_rfl) ?y10_7 HS9 ?r10_7
   case y10_7 => intro wx hx; obtain ⟨h0, h1, h2, h3⟩ := hx; go_simp; try (with_reducible rfl)
   simp only [Act.put, List.setIfInBounds_toArray, List.set_cons_zero, List.set_cons_succ]
   refine anyL_done (by kernel_rfl) (NoPanic.normal ?_)
   try simp only [Act.put, List.setIfInBounds_toArray, List.set_cons_zero, List.set_cons_succ]
   generalize hw9 : w4.alloc (.cells #[.int .i64 rf, .slice a4 rl.length c4] 28) = w9 at *
   clear hw9 HS HS3 HS4 HS9 hbA
   have HOK := hidP (fed_ok HA4.out)
   have c0 := BM9.out.cell 0 (v := .int .i64 m.1) rfl
   have c1' := BM9.out.cell 1 (v := .slice a m.2.length cap) rfl
   have c2 := BR9.out.cell 0 (v := .int .i64 r.1) rfl
   have c3 := BR9.out.cell 1 (v := .slice am r.2.length cm) rfl
   go_wp2_with (first
    | (go_at_call 17; (with_reducible refine (feedR_any _ _ _ m r x _ (HI.out.later HW9.out (Nat.le_refl _)) HK.out (HR.out.later HW9.out (Nat.le_refl _)) HO.out (HX.out.later HW9.out (Nat.le_refl _)) HX4.out).mono ?_); rintro e w5 ⟨s5, ec5, hans5, v5, rfl, hr5, hb⟩; obtain ⟨hrr, hee⟩ := hans5.one HA4.out; subst hrr hee; have HR5 := hidP hr5; obtain ⟨vs5, rfl, hm5⟩ := hr5; obtain ⟨a5, c5, rfl⟩ := hm5.sl; have BF5 := hidP ((BF9.out.below hb BF9.out.lt).alloc (.cells #[.int .i64 rf, .slice a5 rl.length c5] 28)); have BG5 : Hid (Blk (w5.alloc (.cells #[.int .i64 rf, .slice a5 rl.length c5] 28)) w5.heap.size #[.int .i64 rf, .slice a5 rl.length c5] 28) := Blk.made w5 _ _; have BR5 := hidP ((BR9.out.below hb BR9.out.lt).alloc (.cells #[.int .i64 rf, .slice a5 rl.length c5] 28)); have BC5 := hidP ((BC9.out.below hb BC9.out.lt).alloc (.cells #[.int .i64 rf, .slice a5 rl.length c5] 28)); have HA5 : Hid (Below w5.heap.size w5 (w5.alloc (.cells #[.int .i64 rf, .slice a5 rl.length c5] 28))) := (Below.refl _ _).alloc (Nat.le_refl _) _; have H95 : Hid (Below w9.heap.size w9 (w5.alloc (.cells #[.int .i64 rf, .slice a5 rl.length c5] 28))) := hb.trans (HA5.out.mono hb.size); have HW5 : Hid (Below w.heap.size w (w5.alloc (.cells #[.int .i64 rf, .slice a5 rl.length c5] 28))) := HW9.out.trans (H95.out.mono HW9.out.size); have HQ5 := hidP (HQ9.out.later H95.out (Nat.le_refl _)); have HY5 := hidP (HY9.out.later H95.out (Nat.le_refl _)); have HZ5 := hidP (HZ9.out.later H95.out (Nat.le_refl _)); have hec : (ec5 == ec5) = true := (by simp); have f0 := BF5.out.cell 0 (v := .int .i64 rf) rfl; have f1 := BF5.out.cell 1 (v := .slice a4 rl.length c4) rfl; clear hans5 hm5 hb c0 c1' c2 c3)
    | (go_at_call 12; (with_reducible refine (sameRun_any _ _ (rf, rl) _ HZ5.out (HR5.out.later HA5.out (Nat.le_refl _)) HOK.out).mono ?_); rintro e w6 ⟨rfl, hb⟩; have HW6 : Hid (Below w.heap.size w w6) := HW5.out.trans (hb.mono HW5.out.size); have BR6 := BR5.out.below hb BR5.out.lt; have BC6 := BC5.out.below hb BC5.out.lt; have HQ6 := hidP (HQ5.out.later hb (Nat.le_refl _)); have HY6 := hidP (HY5.out.later hb (Nat.le_refl _)); have g0 := BC6.cell 0 (v := .int .i64 r.1) rfl; have g1 := BC6.cell 1 (v := .slice a1 r.2.length c1) rfl; have g2 := BR6.cell 0 (v := .int .i64 r.1) rfl; have g3 := BR6.cell 1 (v := .slice am r.2.length cm) rfl; clear hb BR6 BC6 f0 f1)
    | (go_at_call 12; (with_reducible refine (sameRun_any _ _ r _ HQ6.out (HR.out.later HW6.out (Nat.le_refl _)) HO.out).mono ?_); rintro e w7 ⟨rfl, hb⟩; have HW7 : Hid (Below w.heap.size w w7) := HW6.out.trans (hb.mono HW6.out.size); have HY7 := hidP (HY6.out.later hb (Nat.le_refl _)); clear hb g0 g1 g2 g3)
    | (go_at_call 18; (with_reducible refine (sameNums_any _ _ x _ HY7.out (HX.out.later HW7.out (Nat.le_refl _)) HX5.out).mono ?_); rintro e w8 ⟨rfl, hb⟩; have HW8 : Hid (Below w.heap.size w w8) := HW7.out.trans (hb.mono HW7.out.size); clear hb))
   go_ret
   exact ⟨rfl, HW8.out⟩
  ·go_simp
   have hbA : Below w3.heap.size w3 (w3.alloc (.cells #[.int .i64 0, .slice none 0 0] 28)) := (Below.refl _ _).alloc (Nat.le_refl _) _
   have HE := hidP hbA
   refine hK _ _ (.inr ⟨low HS3.1 hbA, low HS3.2.1 hbA, low HS3.2.2.1 hbA, low HS3.2.2.2 hbA⟩) ?_
   try simp only [Act.put, List.setIfInBounds_toArray, List.set_cons_zero, List.set_cons_succ]
   refine anyL_one (i := 4) aZ4 (by kernel_rfl) rfl (fun K hK => ?_)
   go_simp
   with_reducible refine (feedP_any _ _ _ m r x _ (HI3.out.later HE.out (Nat.le_refl _)) HK.out (HQ3.out.later HE.out (Nat.le_refl _)) HO.out (HY3.out.later HE.out (Nat.le_refl _)) HX4.out).mono ?_
   rintro e w4 ⟨⟨rf, rl⟩, ec, hans, v4, rfl, hr4, hb4⟩
   have HA4 := hidP hans
   have HB4 := hidP hb4
   obtain ⟨vs4, rfl, hm4⟩ := hr4
   simp only at hm4
   obtain ⟨a4, c4, rfl⟩ := hm4.sl
   have HZ4 : Hid (RunV w4 (.agg #[.int .i64 rf, .slice a4 rl.length c4]) (rf, rl)) := ⟨_, rfl, hm4⟩
   clear hans hm4 hb4
   have HB34 : Hid (Below w3.heap.size w3 w4) := HE.out.trans (HB4.out.mono HE.out.size)
   have BM4 := hidP (BM3.out.below HB34.out BM3.out.lt)
   have BR4 := hidP (BR3.out.below HB34.out BR3.out.lt)
   have BC4 := hidP (BC3.out.below HB34.out BC3.out.lt)
   have HQ4 : Hid (RunV _ (.agg #[.int .i64 r.1, .slice a1 r.2.length c1]) r) := HQ3.out.later HB34.out (Nat.le_refl _)
   have HY4 : Hid (Nums _ (.slice a8 x.length c8) x) := HY3.out.later HB34.out (Nat.le_refl _)
   have HW4 : Hid (Below w.heap.size w _) := HW3.out.trans (HB34.out.mono HW3.out.size)
   have BZ4 : Hid (Blk w4 w3.heap.size #[.int .i64 0, .slice none 0 0] 28) := (Blk.made w3 _ _).below HB4.out (by simp)
   have HS4 : HeldMRX w.heap.size w1.heap.size (.int .i64 m.1) (.slice a m.2.length cap) (.int .i64 r.1) (.slice a1 r.2.length c1) w4 := ⟨BM4.out.cell 0 rfl, BM4.out.cell 1 rfl, BC4.out.cell 0 rfl, BC4.out.cell 1 rfl⟩
   have z3 : w.heap.size + 1 < w3.heap.size := BR3.out.lt
   have z3' : w1.heap.size < w3.heap.size := BC3.out.lt
   have zq : w3.heap.size < w4.heap.size := BZ4.out.lt
   refine hK _ _ (.inr HS4) ?_
   try simp only [Act.put, List.setIfInBounds_toArray, List.set_cons_zero, List.set_cons_succ]
   refine anyL_tk (i := 5) (v := ?v5_8) aZ5 (by kernel_rfl) ?y5_8 HS4 ?r5_8
   case y5_8 => intro wx hx; obtain ⟨h0, h1, h2, h3⟩ := hx; go_simp; try (with_reducible rfl)
   simp only [Act.put, List.setIfInBounds_toArray, List.set_cons_zero, List.set_cons_succ]
   refine anyL_tk (i := 6) (v := ?v6_9) aZ6 (by kernel_rfl) ?y6_9 HS4 ?r6_9
   case y6_9 => intro wx hx; obtain ⟨h0, h1, h2, h3⟩ := hx; go_simp; try (with_reducible rfl)
   simp only [Act.put, List.setIfInBounds_toArray, List.set_cons_zero, List.set_cons_succ]
   refine anyL_tk (i := 7) (v := ?v7_10) aZ7 (by kernel_rfl) ?y7_10 HS4 ?r7_10
   case y7_10 => intro wx hx; obtain ⟨h0, h1, h2, h3⟩ := hx; go_simp; try (with_reducible rfl)
   simp only [Act.put, List.setIfInBounds_toArray, List.set_cons_zero, List.set_cons_succ]
   have u0 := BZ4.out.cell 0 (v := .int .i64 0) rfl
   have u1 := BZ4.out.cell 1 (v := .slice none 0 0) rfl
   have t0 := BZ4.out.fz 0
   have t1 := BZ4.out.fz 1
   have zz4 := BZ4.out.lt
   refine anyL_one (i := 9) aZ9 (by kernel_rfl) rfl (fun K hK => ?_)
   go_simp
   have BF9 : Hid (Blk ((w4.setCell ⟨w3.heap.size, 0, none⟩ (.int .i64 rf)).setCell ⟨w3.heap.size, 1, none⟩ (.slice a4 rl.length c4)) w3.heap.size #[.int .i64 rf, .slice a4 rl.length c4] 28) := (BZ4.out.set 0 _).set 1 _
   have BM9 : Hid (Blk ((w4.setCell ⟨w3.heap.size, 0, none⟩ (.int .i64 rf)).setCell ⟨w3.heap.size, 1, none⟩ (.slice a4 rl.length c4)) w.heap.size #[.int .i64 m.1, .slice a m.2.length cap] 24) := (BM4.out.setO _ _ (by show w.heap.size ≠ w3.heap.size; omega)).setO _ _ (by show w.heap.size ≠ w3.heap.size; omega)
   have BR9 : Hid (Blk ((w4.setCell ⟨w3.heap.size, 0, none⟩ (.int .i64 rf)).setCell ⟨w3.heap.size, 1, none⟩ (.slice a4 rl.length c4)) (w.heap.size + 1) #[.int .i64 r.1, .slice am r.2.length cm] 28) := (BR4.out.setO _ _ (by show w.heap.size + 1 ≠ w3.heap.size; omega)).setO _ _ (by show w.heap.size + 1 ≠ w3.heap.size; omega)
   have BC9 : Hid (Blk ((w4.setCell ⟨w3.heap.size, 0, none⟩ (.int .i64 rf)).setCell ⟨w3.heap.size, 1, none⟩ (.slice a4 rl.length c4)) w1.heap.size #[.int .i64 r.1, .slice a1 r.2.length c1] 28) := (BC4.out.setO _ _ (by show w1.heap.size ≠ w3.heap.size; omega)).setO _ _ (by show w1.heap.size ≠ w3.heap.size; omega)
   have HQ9 : Hid (RunV ((w4.setCell ⟨w3.heap.size, 0, none⟩ (.int .i64 rf)).setCell ⟨w3.heap.size, 1, none⟩ (.slice a4 rl.length c4)) (.agg #[.int .i64 r.1, .slice a1 r.2.length c1]) r) := HQ3.out.later (by show Below w3.heap.size _ _; have h9 := HB34.out; go_grown) (by omega)
   have HY9 : Hid (Nums ((w4.setCell ⟨w3.heap.size, 0, none⟩ (.int .i64 rf)).setCell ⟨w3.heap.size, 1, none⟩ (.slice a4 rl.length c4)) (.slice a8 x.length c8) x) := HY3.out.later (by show Below w3.heap.size _ _; have h9 := HB34.out; go_grown) (by omega)
   have HW9 : Hid (Below w.heap.size w ((w4.setCell ⟨w3.heap.size, 0, none⟩ (.int .i64 rf)).setCell ⟨w3.heap.size, 1, none⟩ (.slice a4 rl.length c4))) := by show Below _ _ _; have h9 := HW4.out; go_grown
   have HZ9 : Hid (RunV ((w4.setCell ⟨w3.heap.size, 0, none⟩ (.int .i64 rf)).setCell ⟨w3.heap.size, 1, none⟩ (.slice a4 rl.length c4)) (.agg #[.int .i64 rf, .slice a4 rl.length c4]) (rf, rl)) := run_out HZ4.out (fed_nz HA4.out) BZ4.out (fun b hb hx => (Below.heap_setCell _ _ _ b hx).trans (Below.heap_setCell _ _ _ b hx)) (by simp)
   have HS9 : HeldMRX w.heap.size w1.heap.size (.int .i64 m.1) (.slice a m.2.length cap) (.int .i64 r.1) (.slice a1 r.2.length c1) ((w4.setCell ⟨w3.heap.size, 0, none⟩ (.int .i64 rf)).setCell ⟨w3.heap.size, 1, none⟩ (.slice a4 rl.length c4)) := ⟨BM9.out.cell 0 rfl, BM9.out.cell 1 rfl, BC9.out.cell 0 rfl, BC9.out.cell 1 rfl⟩
   refine hK _ _ (.inr HS9) ?_
   try simp only [Act.put, List.setIfInBounds_toArray, List.set_cons_zero, List.set_cons_succ]
   refine anyL_tk (i := 10) (v := ?v10_11) aZ10 (by kernel_rfl) ?y10_11 HS9 ?r10_11
   case y10_11 => intro wx hx; obtain ⟨h0, h1, h2, h3⟩ := hx; go_simp; try (with_reducible rfl)
   simp only [Act.put, List.setIfInBounds_toArray, List.set_cons_zero, List.set_cons_succ]
   refine anyL_done (by kernel_rfl) (NoPanic.normal ?_)
   try simp only [Act.put, List.setIfInBounds_toArray, List.set_cons_zero, List.set_cons_succ]
   generalize hw9 : ((w4.setCell ⟨w3.heap.size, 0, none⟩ (.int .i64 rf)).setCell ⟨w3.heap.size, 1, none⟩ (.slice a4 rl.length c4)) = w9 at *
   clear hw9 HS HS3 HS4 HS9 hbA u0 u1 t0 t1
   have HOK := hidP (fed_ok HA4.out)
   have c0 := BM9.out.cell 0 (v := .int .i64 m.1) rfl
   have c1' := BM9.out.cell 1 (v := .slice a m.2.length cap) rfl
   have c2 := BR9.out.cell 0 (v := .int .i64 r.1) rfl
   have c3 := BR9.out.cell 1 (v := .slice am r.2.length cm) rfl
   go_wp2_with (first
    | (go_at_call 17; (with_reducible refine (feedR_any _ _ _ m r x _ (HI.out.later HW9.out (Nat.le_refl _)) HK.out (HR.out.later HW9.out (Nat.le_refl _)) HO.out (HX.out.later HW9.out (Nat.le_refl _)) HX4.out).mono ?_); rintro e w5 ⟨s5, ec5, hans5, v5, rfl, hr5, hb⟩; obtain ⟨hrr, hee⟩ := hans5.one HA4.out; subst hrr hee; have HR5 := hidP hr5; obtain ⟨vs5, rfl, hm5⟩ := hr5; obtain ⟨a5, c5, rfl⟩ := hm5.sl; have BF5 := hidP ((BF9.out.below hb BF9.out.lt).alloc (.cells #[.int .i64 rf, .slice a5 rl.length c5] 28)); have BG5 : Hid (Blk (w5.alloc (.cells #[.int .i64 rf, .slice a5 rl.length c5] 28)) w5.heap.size #[.int .i64 rf, .slice a5 rl.length c5] 28) := Blk.made w5 _ _; have BR5 := hidP ((BR9.out.below hb BR9.out.lt).alloc (.cells #[.int .i64 rf, .slice a5 rl.length c5] 28)); have BC5 := hidP ((BC9.out.below hb BC9.out.lt).alloc (.cells #[.int .i64 rf, .slice a5 rl.length c5] 28)); have HA5 : Hid (Below w5.heap.size w5 (w5.alloc (.cells #[.int .i64 rf, .slice a5 rl.length c5] 28))) := (Below.refl _ _).alloc (Nat.le_refl _) _; have H95 : Hid (Below w9.heap.size w9 (w5.alloc (.cells #[.int .i64 rf, .slice a5 rl.length c5] 28))) := hb.trans (HA5.out.mono hb.size); have HW5 : Hid (Below w.heap.size w (w5.alloc (.cells #[.int .i64 rf, .slice a5 rl.length c5] 28))) := HW9.out.trans (H95.out.mono HW9.out.size); have HQ5 := hidP (HQ9.out.later H95.out (Nat.le_refl _)); have HY5 := hidP (HY9.out.later H95.out (Nat.le_refl _)); have HZ5 := hidP (HZ9.out.later H95.out (Nat.le_refl _)); have hec : (ec5 == ec5) = true := (by simp); have f0 := BF5.out.cell 0 (v := .int .i64 rf) rfl; have f1 := BF5.out.cell 1 (v := .slice a4 rl.length c4) rfl; clear hans5 hm5 hb c0 c1' c2 c3)
    | (go_at_call 12; (with_reducible refine (sameRun_any _ _ (rf, rl) _ HZ5.out (HR5.out.later HA5.out (Nat.le_refl _)) HOK.out).mono ?_); rintro e w6 ⟨rfl, hb⟩; have HW6 : Hid (Below w.heap.size w w6) := HW5.out.trans (hb.mono HW5.out.size); have BR6 := BR5.out.below hb BR5.out.lt; have BC6 := BC5.out.below hb BC5.out.lt; have HQ6 := hidP (HQ5.out.later hb (Nat.le_refl _)); have HY6 := hidP (HY5.out.later hb (Nat.le_refl _)); have g0 := BC6.cell 0 (v := .int .i64 r.1) rfl; have g1 := BC6.cell 1 (v := .slice a1 r.2.length c1) rfl; have g2 := BR6.cell 0 (v := .int .i64 r.1) rfl; have g3 := BR6.cell 1 (v := .slice am r.2.length cm) rfl; clear hb BR6 BC6 f0 f1)
    | (go_at_call 12; (with_reducible refine (sameRun_any _ _ r _ HQ6.out (HR.out.later HW6.out (Nat.le_refl _)) HO.out).mono ?_); rintro e w7 ⟨rfl, hb⟩; have HW7 : Hid (Below w.heap.size w w7) := HW6.out.trans (hb.mono HW6.out.size); have HY7 := hidP (HY6.out.later hb (Nat.le_refl _)); clear hb g0 g1 g2 g3)
    | (go_at_call 18; (with_reducible refine (sameNums_any _ _ x _ HY7.out (HX.out.later HW7.out (Nat.le_refl _)) HX5.out).mono ?_); rintro e w8 ⟨rfl, hb⟩; have HW8 : Hid (Below w.heap.size w w8) := HW7.out.trans (hb.mono HW7.out.size); clear hb))
   go_ret
   exact ⟨rfl, HW8.out⟩
 ·go_simp
  have hbA : Below W2.heap.size W2 (W2.alloc (.cells #[.int .i64 0, .slice none 0 0] 28)) := (Below.refl _ _).alloc (Nat.le_refl _) _
  have HE := hidP hbA
  have HWD : Hid (Below w.heap.size w (W2.alloc (.cells #[.int .i64 0, .slice none 0 0] 28))) := HWW.out.trans (hbA.mono HWW.out.size)
  refine hK _ _ (.inr ⟨low HS.1 hbA, low HS.2.1 hbA, low HS.2.2.1 hbA, low HS.2.2.2 hbA⟩) ?_
  try simp only [Act.put, List.setIfInBounds_toArray, List.set_cons_zero, List.set_cons_succ]
  refine anyL_one (i := 1) aZ1 (by kernel_rfl) rfl (fun K hK => ?_)
  go_simp
  with_reducible refine (machine_any _ m _ (HI.out.later HWD.out (Nat.le_refl _)) HK.out).mono ?_
  rintro e w3 ⟨v3, rfl, hi, hb3⟩
  have HI3 := hidP hi
  have HB3 := hidP hb3
  obtain ⟨vs3, rfl, hS3⟩ := hi
  obtain ⟨a3, cap3, rfl⟩ := hS3.sl
  clear hS3 hb3
  have HB23 : Hid (Below W2.heap.size W2 w3) := HE.out.trans (HB3.out.mono HE.out.size)
  have HW2 := hidP HWW.out
  have BM3 := hidP (BM2.out.below HB23.out BM2.out.lt)
  have BR3 := hidP (BR2.out.below HB23.out BR2.out.lt)
  have BC3 := hidP (BC2.out.below HB23.out BC2.out.lt)
  have HQ3 : Hid (RunV _ (.agg #[.int .i64 r.1, .slice a1 r.2.length c1]) r) := HQ2.out.later HB23.out (Nat.le_refl _)
  have HY3 : Hid (Nums _ (.slice a8 x.length c8) x) := HY2.out.later HB23.out (Nat.le_refl _)
  have HW3 : Hid (Below w.heap.size w _) := HW2.out.trans (HB23.out.mono HW2.out.size)
  have BZ3 : Hid (Blk w3 W2.heap.size #[.int .i64 0, .slice none 0 0] 28) := (Blk.made W2 _ _).below HB3.out (by simp)
  have HS3 : HeldMRX w.heap.size w1.heap.size (.int .i64 m.1) (.slice a m.2.length cap) (.int .i64 r.1) (.slice a1 r.2.length c1) w3 := ⟨BM3.out.cell 0 rfl, BM3.out.cell 1 rfl, BC3.out.cell 0 rfl, BC3.out.cell 1 rfl⟩
  refine hK _ _ (.inr HS3) ?_
  try simp only [Act.put, List.setIfInBounds_toArray, List.set_cons_zero, List.set_cons_succ]
  refine anyL_one (i := 4) aZ4 (by kernel_rfl) rfl (fun K hK => ?_)
  go_simp
  with_reducible refine (feedP_any _ _ _ m r x _ HI3.out HK.out HQ3.out HO.out HY3.out HX4.out).mono ?_
  rintro e w4 ⟨⟨rf, rl⟩, ec, hans, v4, rfl, hr4, hb4⟩
  have HA4 := hidP hans
  have HB4 := hidP hb4
  obtain ⟨vs4, rfl, hm4⟩ := hr4
  simp only at hm4
  obtain ⟨a4, c4, rfl⟩ := hm4.sl
  have HZ4 : Hid (RunV w4 (.agg #[.int .i64 rf, .slice a4 rl.length c4]) (rf, rl)) := ⟨_, rfl, hm4⟩
  clear hans hm4 hb4
  have HB24 : Hid (Below W2.heap.size W2 w4) := HB23.out.trans (HB4.out.mono HB23.out.size)
  have BM4 := hidP (BM3.out.below HB4.out BM3.out.lt)
  have BR4 := hidP (BR3.out.below HB4.out BR3.out.lt)
  have BC4 := hidP (BC3.out.below HB4.out BC3.out.lt)
  have HQ4 : Hid (RunV _ (.agg #[.int .i64 r.1, .slice a1 r.2.length c1]) r) := HQ3.out.later HB4.out (Nat.le_refl _)
  have HY4 : Hid (Nums _ (.slice a8 x.length c8) x) := HY3.out.later HB4.out (Nat.le_refl _)
  have HW4 : Hid (Below w.heap.size w _) := HW3.out.trans (HB4.out.mono HW3.out.size)
  have BZ4 := hidP (BZ3.out.below HB4.out BZ3.out.lt)
  have HS4 : HeldMRX w.heap.size w1.heap.size (.int .i64 m.1) (.slice a m.2.length cap) (.int .i64 r.1) (.slice a1 r.2.length c1) w4 := ⟨BM4.out.cell 0 rfl, BM4.out.cell 1 rfl, BC4.out.cell 0 rfl, BC4.out.cell 1 rfl⟩
  have z3 : w.heap.size + 1 < W2.heap.size := BR2.out.lt
  have z3' : w1.heap.size < W2.heap.size := BC2.out.lt
  have zq : W2.heap.size < w4.heap.size := BZ4.out.lt
  refine hK _ _ (.inr HS4) ?_
  try simp only [Act.put, List.setIfInBounds_toArray, List.set_cons_zero, List.set_cons_succ]
  refine anyL_tk (i := 5) (v := ?v5_12) aZ5 (by kernel_rfl) ?y5_12 HS4 ?r5_12
  case y5_12 => intro wx hx; obtain ⟨h0, h1, h2, h3⟩ := hx; go_simp; try (with_reducible rfl)
  simp only [Act.put, List.setIfInBounds_toArray, List.set_cons_zero, List.set_cons_succ]
  refine anyL_tk (i := 6) (v := ?v6_13) aZ6 (by kernel_rfl) ?y6_13 HS4 ?r6_13
  case y6_13 => intro wx hx; obtain ⟨h0, h1, h2, h3⟩ := hx; go_simp; try (with_reducible rfl)
  simp only [Act.put, List.setIfInBounds_toArray, List.set_cons_zero, List.set_cons_succ]
  refine anyL_tk (i := 7) (v := ?v7_14) aZ7 (by kernel_rfl) ?y7_14 HS4 ?r7_14
  case y7_14 => intro wx hx; obtain ⟨h0, h1, h2, h3⟩ := hx; go_simp; try (with_reducible rfl)
  simp only [Act.put, List.setIfInBounds_toArray, List.set_cons_zero, List.set_cons_succ]
  have u0 := BZ4.out.cell 0 (v := .int .i64 0) rfl
  have u1 := BZ4.out.cell 1 (v := .slice none 0 0) rfl
  have t0 := BZ4.out.fz 0
  have t1 := BZ4.out.fz 1
  have zz4 := BZ4.out.lt
  refine anyL_one (i := 9) aZ9 (by kernel_rfl) rfl (fun K hK => ?_)
  go_simp
  have BF9 : Hid (Blk ((w4.setCell ⟨W2.heap.size, 0, none⟩ (.int .i64 rf)).setCell ⟨W2.heap.size, 1, none⟩ (.slice a4 rl.length c4)) W2.heap.size #[.int .i64 rf, .slice a4 rl.length c4] 28) := (BZ4.out.set 0 _).set 1 _
  have BM9 : Hid (Blk ((w4.setCell ⟨W2.heap.size, 0, none⟩ (.int .i64 rf)).setCell ⟨W2.heap.size, 1, none⟩ (.slice a4 rl.length c4)) w.heap.size #[.int .i64 m.1, .slice a m.2.length cap] 24) := (BM4.out.setO _ _ (by show w.heap.size ≠ W2.heap.size; omega)).setO _ _ (by show w.heap.size ≠ W2.heap.size; omega)
  have BR9 : Hid (Blk ((w4.setCell ⟨W2.heap.size, 0, none⟩ (.int .i64 rf)).setCell ⟨W2.heap.size, 1, none⟩ (.slice a4 rl.length c4)) (w.heap.size + 1) #[.int .i64 r.1, .slice am r.2.length cm] 28) := (BR4.out.setO _ _ (by show w.heap.size + 1 ≠ W2.heap.size; omega)).setO _ _ (by show w.heap.size + 1 ≠ W2.heap.size; omega)
  have BC9 : Hid (Blk ((w4.setCell ⟨W2.heap.size, 0, none⟩ (.int .i64 rf)).setCell ⟨W2.heap.size, 1, none⟩ (.slice a4 rl.length c4)) w1.heap.size #[.int .i64 r.1, .slice a1 r.2.length c1] 28) := (BC4.out.setO _ _ (by show w1.heap.size ≠ W2.heap.size; omega)).setO _ _ (by show w1.heap.size ≠ W2.heap.size; omega)
  have HQ9 : Hid (RunV ((w4.setCell ⟨W2.heap.size, 0, none⟩ (.int .i64 rf)).setCell ⟨W2.heap.size, 1, none⟩ (.slice a4 rl.length c4)) (.agg #[.int .i64 r.1, .slice a1 r.2.length c1]) r) := HQ2.out.later (by show Below W2.heap.size _ _; have h9 := HB24.out; go_grown) (by omega)
  have HY9 : Hid (Nums ((w4.setCell ⟨W2.heap.size, 0, none⟩ (.int .i64 rf)).setCell ⟨W2.heap.size, 1, none⟩ (.slice a4 rl.length c4)) (.slice a8 x.length c8) x) := HY2.out.later (by show Below W2.heap.size _ _; have h9 := HB24.out; go_grown) (by omega)
  have HW9 : Hid (Below w.heap.size w ((w4.setCell ⟨W2.heap.size, 0, none⟩ (.int .i64 rf)).setCell ⟨W2.heap.size, 1, none⟩ (.slice a4 rl.length c4))) := by show Below _ _ _; have h9 := HW4.out; go_grown
  have HZ9 : Hid (RunV ((w4.setCell ⟨W2.heap.size, 0, none⟩ (.int .i64 rf)).setCell ⟨W2.heap.size, 1, none⟩ (.slice a4 rl.length c4)) (.agg #[.int .i64 rf, .slice a4 rl.length c4]) (rf, rl)) := run_out HZ4.out (fed_nz HA4.out) BZ4.out (fun b hb hx => (Below.heap_setCell _ _ _ b hx).trans (Below.heap_setCell _ _ _ b hx)) (by simp)
  have HS9 : HeldMRX w.heap.size w1.heap.size (.int .i64 m.1) (.slice a m.2.length cap) (.int .i64 r.1) (.slice a1 r.2.length c1) ((w4.setCell ⟨W2.heap.size, 0, none⟩ (.int .i64 rf)).setCell ⟨W2.heap.size, 1, none⟩ (.slice a4 rl.length c4)) := ⟨BM9.out.cell 0 rfl, BM9.out.cell 1 rfl, BC9.out.cell 0 rfl, BC9.out.cell 1 rfl⟩
  refine hK _ _ (.inr HS9) ?_
  try simp only [Act.put, List.setIfInBounds_toArray, List.set_cons_zero, List.set_cons_succ]
  refine anyL_tk (i := 10) (v := ?v10_15) aZ10 (by kernel_rfl) ?y10_15 HS9 ?r10_15
  case y10_15 => intro wx hx; obtain ⟨h0, h1, h2, h3⟩ := hx; go_simp; try (with_reducible rfl)
  simp only [Act.put, List.setIfInBounds_toArray, List.set_cons_zero, List.set_cons_succ]
  refine anyL_done (by kernel_rfl) (NoPanic.normal ?_)
  try simp only [Act.put, List.setIfInBounds_toArray, List.set_cons_zero, List.set_cons_succ]
  generalize hw9 : ((w4.setCell ⟨W2.heap.size, 0, none⟩ (.int .i64 rf)).setCell ⟨W2.heap.size, 1, none⟩ (.slice a4 rl.length c4)) = w9 at *
  clear hw9 HS HS3 HS4 HS9 hbA u0 u1 t0 t1
  have HOK := hidP (fed_ok HA4.out)
  have c0 := BM9.out.cell 0 (v := .int .i64 m.1) rfl
  have c1' := BM9.out.cell 1 (v := .slice a m.2.length cap) rfl
  have c2 := BR9.out.cell 0 (v := .int .i64 r.1) rfl
  have c3 := BR9.out.cell 1 (v := .slice am r.2.length cm) rfl
  go_wp2_with (first
   | (go_at_call 17; (with_reducible refine (feedR_any _ _ _ m r x _ (HI.out.later HW9.out (Nat.le_refl _)) HK.out (HR.out.later HW9.out (Nat.le_refl _)) HO.out (HX.out.later HW9.out (Nat.le_refl _)) HX4.out).mono ?_); rintro e w5 ⟨s5, ec5, hans5, v5, rfl, hr5, hb⟩; obtain ⟨hrr, hee⟩ := hans5.one HA4.out; subst hrr hee; have HR5 := hidP hr5; obtain ⟨vs5, rfl, hm5⟩ := hr5; obtain ⟨a5, c5, rfl⟩ := hm5.sl; have BF5 := hidP ((BF9.out.below hb BF9.out.lt).alloc (.cells #[.int .i64 rf, .slice a5 rl.length c5] 28)); have BG5 : Hid (Blk (w5.alloc (.cells #[.int .i64 rf, .slice a5 rl.length c5] 28)) w5.heap.size #[.int .i64 rf, .slice a5 rl.length c5] 28) := Blk.made w5 _ _; have BR5 := hidP ((BR9.out.below hb BR9.out.lt).alloc (.cells #[.int .i64 rf, .slice a5 rl.length c5] 28)); have BC5 := hidP ((BC9.out.below hb BC9.out.lt).alloc (.cells #[.int .i64 rf, .slice a5 rl.length c5] 28)); have HA5 : Hid (Below w5.heap.size w5 (w5.alloc (.cells #[.int .i64 rf, .slice a5 rl.length c5] 28))) := (Below.refl _ _).alloc (Nat.le_refl _) _; have H95 : Hid (Below w9.heap.size w9 (w5.alloc (.cells #[.int .i64 rf, .slice a5 rl.length c5] 28))) := hb.trans (HA5.out.mono hb.size); have HW5 : Hid (Below w.heap.size w (w5.alloc (.cells #[.int .i64 rf, .slice a5 rl.length c5] 28))) := HW9.out.trans (H95.out.mono HW9.out.size); have HQ5 := hidP (HQ9.out.later H95.out (Nat.le_refl _)); have HY5 := hidP (HY9.out.later H95.out (Nat.le_refl _)); have HZ5 := hidP (HZ9.out.later H95.out (Nat.le_refl _)); have hec : (ec5 == ec5) = true := (by simp); have f0 := BF5.out.cell 0 (v := .int .i64 rf) rfl; have f1 := BF5.out.cell 1 (v := .slice a4 rl.length c4) rfl; clear hans5 hm5 hb c0 c1' c2 c3)
   | (go_at_call 12; (with_reducible refine (sameRun_any _ _ (rf, rl) _ HZ5.out (HR5.out.later HA5.out (Nat.le_refl _)) HOK.out).mono ?_); rintro e w6 ⟨rfl, hb⟩; have HW6 : Hid (Below w.heap.size w w6) := HW5.out.trans (hb.mono HW5.out.size); have BR6 := BR5.out.below hb BR5.out.lt; have BC6 := BC5.out.below hb BC5.out.lt; have HQ6 := hidP (HQ5.out.later hb (Nat.le_refl _)); have HY6 := hidP (HY5.out.later hb (Nat.le_refl _)); have g0 := BC6.cell 0 (v := .int .i64 r.1) rfl; have g1 := BC6.cell 1 (v := .slice a1 r.2.length c1) rfl; have g2 := BR6.cell 0 (v := .int .i64 r.1) rfl; have g3 := BR6.cell 1 (v := .slice am r.2.length cm) rfl; clear hb BR6 BC6 f0 f1)
   | (go_at_call 12; (with_reducible refine (sameRun_any _ _ r _ HQ6.out (HR.out.later HW6.out (Nat.le_refl _)) HO.out).mono ?_); rintro e w7 ⟨rfl, hb⟩; have HW7 : Hid (Below w.heap.size w w7) := HW6.out.trans (hb.mono HW6.out.size); have HY7 := hidP (HY6.out.later hb (Nat.le_refl _)); clear hb g0 g1 g2 g3)
   | (go_at_call 18; (with_reducible refine (sameNums_any _ _ x _ HY7.out (HX.out.later HW7.out (Nat.le_refl _)) HX5.out).mono ?_); rintro e w8 ⟨rfl, hb⟩; have HW8 : Hid (Below w.heap.size w w8) := HW7.out.trans (hb.mono HW7.out.size); clear hb))
  go_ret
  exact ⟨rfl, HW8.out⟩
theorem walk (v : Value) (m : Mc) (vr : Value) (r : Ru) (a1 : Option Addr) (len1 cap1 : Nat) (z1 : List Int) (w : World) (h : Mach w v m ∧ okM m ∧ (Lit.int .i64 m.1).wf = true ∧ ∀ s ∈ m.2, (Lit.int .i64 s.1).wf = true ∧ ∀ a ∈ s.2, wfA a)
  (hr : RunV w vr r ∧ okU r ∧ (Lit.int .i64 r.1).wf = true ∧ ∀ k ∈ r.2, (Lit.int .i64 k.1).wf = true ∧ (Lit.int .i64 k.2.1).wf = true ∧ ∀ x ∈ k.2.2, (Lit.int .i64 x).wf = true) (w1 : IsRow .i64 w a1 len1 cap1 z1 ∧ cap1 * 8 ≤ 140737488351232) :
  Calls Try.prog 4 #[v, vr, .slice a1 len1 cap1] w fun e w' => e = .returned (.bool true) ∧ Below w.heap.size w w' := by
 obtain ⟨h1, h2, h3⟩ := row_nums w1.1
 exact core v m vr r _ _ w h.1 h.2.1 hr.1 hr.2.1 h1 (by have := w1.2; omega)
set_option maxRecDepth 100000 in
theorem lifted (os : Os) (started : os.Started) (H : Type) (enc : TypeId × Value → H) :
  ReturnsInHanded {} Try.checked os 4 .any (Rows.streamFeedsSpec.pre6 enc Try.prog Try.f4 Rows.streamFeedsRow.domain false) (Rows.streamFeedsSpec.post enc Try.prog Try.f4 false true false false) := by
 refine returnsInHanded_of_change_sized (C := Try.checked) own started (by kernel_rfl) Try.func4
  (ChangeSpec.witness6 (enc := enc) (C := Try.checked) false ⟨#[], #[.agg #[.int .i64 0, .slice none 0 0], .agg #[.int .i64 0, .slice none 0 0], .slice none 0 0], []⟩ 8 (by kernel_rfl) (by kernel_rfl) (by kernel_rfl) (by kernel_rfl)) ?_
 intro W base args ds gs before hval0 hW hcnd hsz0 _
 have hsz : (DataW.weightsEach Try.prog (Try.f4.params.toList ++ Rows.streamFeedsSpec.plain.varTypes Try.prog) (ds ++ gs)).all (· ≤ reachBytes) = true := hsz0
 have hval : ∀ (j : Nat) t v, Try.f4.params[j]? = some t → args[j]? = some v → Value.okWide Try.prog W .any base t v := hval0
 clear hval0 hsz0
 have hW' := hW
 obtain ⟨p, q, hA0, hV, rfl, hfz, hnd⟩ := hW
 have hA : DataW.TrodAll enc Try.prog W 0 (fun _ => true) true Try.f4.params.toList args.toList ds p := hA0
 rw [Try.params4] at hA hval hsz
 obtain ⟨v0, vs0, d0, ds0, p0, q0, hargs, rfl, rfl, h0, r0⟩ := trodAll_cons hA
 obtain ⟨v1, vs1, d1, ds1, p1, q1, rfl, rfl, rfl, h1, r1⟩ := trodAll_cons r0
 obtain ⟨v2, vs2, d2, ds2, p2, q2, rfl, rfl, rfl, h2, r2⟩ := trodAll_cons r1
 obtain ⟨rfl, rfl, rfl⟩ := trodAll_nil r2
 obtain rfl : args = #[v0, v1, v2] := by cases args; simp_all
 obtain ⟨rfl, rfl⟩ := trodVars_none hV
 have k0 := h0
 have lt0 : ∀ x ∈ p0, x.block < W.heap.size := by obtain ⟨m, hm⟩ := k0; exact DataW.trod_lt m _ _ _ hm
 obtain ⟨z0, w0⟩ : ∃ m : Mc, Mach W v0 m ∧ okM m ∧ (Lit.int .i64 m.1).wf = true ∧ ∀ s ∈ m.2, (Lit.int .i64 s.1).wf = true ∧ ∀ a ∈ s.2, wfA a := by
  obtain ⟨c0, c1, y0, y1, n, rfl, hd, hp, t0, t1⟩ := Go.Joins.open_agg2 Try.underlying24 (by kernel_rfl) (by kernel_rfl) (hval 0 24 v0 rfl rfl) h0
  subst hd
  exact open_machine t0 t1 ((Fits.arg hsz (j := 0) rfl rfl).field Try.underlying24 (f := 1) rfl rfl)
 have k1 := h1
 have lt1 : ∀ x ∈ p1, x.block < W.heap.size := by obtain ⟨m, hm⟩ := k1; exact DataW.trod_lt m _ _ _ hm
 obtain ⟨z1, w1⟩ : ∃ r : Ru, RunV W v1 r ∧ okU r ∧ (Lit.int .i64 r.1).wf = true ∧ ∀ k ∈ r.2, (Lit.int .i64 k.1).wf = true ∧ (Lit.int .i64 k.2.1).wf = true ∧ ∀ x ∈ k.2.2, (Lit.int .i64 x).wf = true := by
  obtain ⟨c0, c1, y0, y1, n, rfl, hd, hp, t0, t1⟩ := Go.Joins.open_agg2 Try.underlying28 (by kernel_rfl) (by kernel_rfl) (hval 1 28 v1 rfl rfl) h1
  subst hd
  exact open_run t0 t1 ((Fits.arg hsz (j := 1) rfl rfl).field Try.underlying28 (f := 1) rfl rfl)
 obtain ⟨a2, len2, cap2, rfl⟩ := okWide_slice Try.underlying35 (hval 2 35 v2 rfl rfl)
 have k2 := h2
 have lt2 : ∀ x ∈ p2, x.block < W.heap.size := by obtain ⟨m, hm⟩ := k2; exact DataW.trod_lt m _ _ _ hm
 obtain ⟨z2, w2⟩ : ∃ zs, IsRow .i64 W a2 len2 cap2 zs ∧ cap2 * 8 ≤ 140737488351232 := by
  obtain ⟨fuel, hf⟩ := h2
  rcases open_ints Try.underlying35 Try.underlying3 (by kernel_rfl) hf with ⟨hcs, _⟩ | ⟨x, l, c, zs, hcs, _, hl, hm, hz, hx, hcell, hwz⟩
  ·simp [Value.cells] at hcs
   obtain ⟨rfl, rfl, rfl⟩ := hcs
   exact ⟨[], .inl ⟨rfl, rfl, rfl, rfl⟩, by omega⟩
  ·have hd := congrArg Prod.fst hx
   have hsw := sized_slice hsz (j := 2) (t := 35) (e := 3) rfl (congrArg some hd) Try.underlying35
   have hby : Try.prog.bytesOf 3 = 8 := by kernel_rfl
   rw [hby] at hsw
   simp [Value.cells] at hcs
   obtain ⟨rfl, rfl, rfl⟩ := hcs
   have hz' : zs.length = cap2 := by simpa using hz
   simp only [lits, List.length_map, List.length_take, List.length_drop, reachBytes] at hsw
   exact ⟨zs, .inr ⟨_, rfl, hl, hm, hz', hcell, hwz⟩, by omega⟩
 refine (walk v0 z0 v1 z1 a2 len2 cap2 z2 W w0 w1 w2).mono fun e W' ⟨he, bel⟩ => ?_
 subst he
 exact ⟨_, rfl, _, _, _, [], _, [], hW', trodAll_mk1 (shut_bool Try.underlying4 _), (trodAll_cons_mk (Below.trod laidOut (by kernel_rfl) (of_decide_eq_true (by kernel_rfl)) k0 bel lt0) (trodAll_cons_mk (Below.trod laidOut (by kernel_rfl) (of_decide_eq_true (by kernel_rfl)) k1 bel lt1) (trodAll_cons_mk (Below.trod laidOut (by kernel_rfl) (of_decide_eq_true (by kernel_rfl)) k2 bel lt2) trodAll_mk0))), rfl, bel.frame _, fun h => by cases h⟩
end Go.Proofs.Ytkeeiihaijhdoaa.streamFeeds
namespace Go.Proofs.Ytkeeiihaijhdoaa
theorem streamFeeds_holds : Rows.StreamFeedsSaid :=
 OpenClaim.holds_of_wide 4 Try.f4 rfl rfl rfl rfl rfl rfl rfl ⟨rfl, rfl, rfl, rfl, rfl⟩ rfl rfl rfl rfl rfl (by kernel_rfl) Try.func4 (by kernel_rfl)
  (of_decide_eq_true (by kernel_rfl)) (by unfold Func.isWrapper; first | (rw [if_pos (by decide +kernel)]; kernel_rfl) | (rw [if_neg (by decide +kernel)]; exact ⟨rfl, rfl⟩))
  (fun os started H enc _ => streamFeeds.lifted os started H enc)
#print axioms streamFeeds_holds
end Go.Proofs.Ytkeeiihaijhdoaa
