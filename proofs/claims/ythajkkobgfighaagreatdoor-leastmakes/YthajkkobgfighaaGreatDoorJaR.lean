/- The reference's arranging (P5), each kind. -/
import Derived.Test.YthajkkobgfighaaGreatDoorJaQ
import Derived.Test.YthajkkobgfighaaGreatDoorJaK
import Derived.Test.YthajkkobgfighaaGreatDoorJac
import Derived.Test.YthajkkobgfighaaGreatDoorJaC
import Derived.Test.YthajkkobgfighaaGreatDoorLc
import Derived.Test.YthajkkobgfighaaGreatDoorMcZ
import Derived.Test.YthajkkobgfighaaGreatDoorJaM
import Derived.Test.YthajkkobgfighaaGreatDoorPs
import Derived.Test.YthajkkobgfighaaGreatDoorJae
import Derived.Test.YthajkkobgfighaaGreatDoorJaG
namespace Go.Proofs.YthajkkobgfighaaGreatDoor.Wt
open Go.ChangeShapes Go.WideShapes Go.ChangeAt Go.RowKit
open Go.Proofs.YthajkkobgfighaaGreatDoor.Pl
set_option linter.unusedVariables false
set_option linter.unusedSimpArgs false
def HeldG (B1 B b off n cap k : Nat) (vo : Value) (f : Int) (w : World) : Prop :=
 w.cell? ⟨B, 1, none⟩ = some vo ∧ w.cell? ⟨B1, 1, none⟩ = some (.slice (some ⟨b, off, none⟩) n cap) ∧ w.cell? ⟨b, off + k * 2, none⟩ = some (.int .i64 f)
theorem HeldG.below {B1 B b off n cap k : Nat} {vo : Value} {f : Int} {w w' : World} (h : HeldG B1 B b off n cap k vo f w) (hb : Below (B + 1) w w') (hB : B1 < B) (hb' : b < B) : HeldG B1 B b off n cap k vo f w' := by
 obtain ⟨h1, h2, h3⟩ := h
 exact ⟨(hb.cell (show B < _ by omega)).trans h1, (hb.cell (show B1 < _ by omega)).trans h2, (hb.cell (show b < _ by omega)).trans h3⟩
theorem map_take_el {f : List Ar → List Ar} {l : List St} {k : Nat} (h : k < l.length) : (l.take (k + 1)).map (fun s => (s.1, f s.2)) = (l.take k).map (fun s => (s.1, f s.2)) ++ [((el l k).1, f (el l k).2)] := by
 rw [take_el h]; simp
theorem grown_of_below' {w w' : World} (hb : Below w.heap.size w w') : w.grownBy w' none := ⟨hb.os, hb.tape, hb.output, hb.size, fun k hk _ => hb.block k hk⟩
set_option maxRecDepth 100000 in
set_option maxHeartbeats 3200000 in
theorem refArranged_ok0 (v : Value) (m : Mc) (w : World) (h : Mach w v m) (hok : okM m) (hr : faultM m = 0) :
  Calls Tryz.prog 15 #[v, .int .i64 0] w fun e w' => ∃ v', e = .returned (.tuple #[v', .int .i64 0]) ∧ Mach w' v' (mapM (arrL 0) m) ∧ Below w.heap.size w w' := by
 obtain ⟨z, l⟩ := m
 obtain ⟨vs, rfl, hS⟩ := h
 obtain ⟨a, cap, rfl, hc⟩ := hS.get
 have HM : Hid (Mach w (.agg #[.int .i64 z, .slice a l.length cap]) (z, l)) := ⟨_, rfl, hS⟩
 have HK : Hid (okM (z, l)) := hok
 have HR : Hid (faultM (z, l) = 0) := hr
 have h60 := (right_size hr).1
 have HC : Hid (∀ j, j < l.length → ∃ b off va, a = some ⟨b, off, none⟩ ∧ b < w.heap.size ∧ w.cell? ⟨b, off + j * 2, none⟩ = some (.int .i64 (el l j).1) ∧ w.cell? ⟨b, off + j * 2 + 1, none⟩ = some va ∧ Arcs w va (el l j).2) := hc
 clear hS hc hok hr
 simp only
 generalize hn : l.length = n at *
 have HN : Hid (l.length = n) := hn
 clear hn
 go_enter Tryz.func15, Tryz.ntmps15
 go_wp2_with (first
   | (go_at_call 30; (with_reducible refine (fault_any _ (z, l) _ (HM.out.later (B := w.heap.size) (by go_grown) (Nat.le_refl _)) HK.out _ HR.out).mono ?_); rintro e w1 ⟨rfl, hb⟩; obtain ⟨s1, k0, k1, hb1⟩ := boxed2 hb (by simp); have HB1 : Hid (Below w.heap.size w w1) := hb1; have K0 : Hid (Blk w1 w.heap.size #[.int .i64 z, .slice a n cap] 24) := k0; have K1 : Hid (Blk w1 (w.heap.size + 1) #[.int .i64 0, .slice none 0 0] 24) := k1; have c0 := k0.cell 0 (v := .int .i64 z) rfl; clear hb hb1 k0 k1))
 go_loopw [8] (fun i wr => ∃ (k : Nat) (vo : Value), k ≤ n ∧ i = .int .i64 k ∧ Hid (OwnSts wr (w1.heap.size + 1) vo ((l.take k).map fun s => (s.1, arrL 0 s.2))) ∧ Hid (Blk wr w.heap.size #[.int .i64 z, .slice a n cap] 24) ∧ Hid (Blk wr (w.heap.size + 1) #[.int .i64 0, .slice none 0 0] 24) ∧ Hid (Blk wr w1.heap.size #[.int .i64 z, vo] 24) ∧ Hid (Below w.heap.size w wr) ∧ w1.heap.size + 1 ≤ wr.heap.size) (fun i _ => n - (intOf i).toNat)
 case atStart => exact ⟨0, _, Nat.zero_le _, rfl, OwnSts.nil _ _, K0.out.alloc _, K1.out.alloc _, Blk.made _ _ _, HB1.out.alloc HB1.out.size _, by simp⟩
 case round =>
  obtain ⟨k, vo, hk, rfl, hown, b0, b1, b2, hb, hs⟩ := hrel
  have c1 := b0.out.cell 1 (v := .slice a n cap) rfl
  by_cases hlt : k < n
  ·obtain ⟨b, off, va, rfl, hbl, g0, g1, gA⟩ := HC.out k hlt
   have g0 := (hb.out.cell (p := ⟨b, off + k * 2, none⟩) hbl).trans g0
   have g1 := (hb.out.cell (p := ⟨b, off + k * 2 + 1, none⟩) hbl).trans g1
   have GA : Hid (Arcs wr va (el l k).2) := gA.later hb.out (Nat.le_refl _)
   have HLK : Hid ((el l k).2.length * 32 ≤ 140737488351232) := HK.out.2 k (by show k < l.length; rw [HN.out]; exact hlt)
   have hk0' : (0 : Int) ≤ (k : Int) := Int.natCast_nonneg _
   have hk1' : (k : Int) < (n : Int) := by omega
   have HT : Hid ((l.take (k + 1)).map (fun s => (s.1, arrL 0 s.2)) = (l.take k).map (fun s => (s.1, arrL 0 s.2)) ++ [((el l k).1, arrL 0 (el l k).2)]) := map_take_el (by rw [HN.out]; exact hlt)
   have HTL : Hid (((l.take k).map fun s => (s.1, arrL 0 s.2)).length ≤ n) := by show _ ≤ _; simp; omega
   clear gA
   generalize hm : (l.take k).map (fun s => (s.1, arrL 0 s.2)) = M at *
   clear hm
   generalize (el l k).1 = f at *
   generalize (el l k).2 = ar at *
   have HG : Hid (arrL 0 ar = ordL ar) := by show _ = _; rw [← sortS_false]; rfl
   go_wp2_with (first
    | (go_at_call 35; (with_reducible refine (refInOrder_any _ ar _ GA.out HLK.out).mono ?_); rintro e w9 ⟨v9, rfl, ho9, hb9⟩; have HO9 : Hid (w9.ownsRow (w1.heap.size + 1) 48 4 v9 (arrL 0 ar).length ((arrL 0 ar).flatMap encA)) := (by rw [HG.out]; exact own_mono' ho9 hs); have HB9 : Hid (Below wr.heap.size wr w9) := hb9; clear ho9 hb9))
   -- the list is there
   have OV : w9.ownsRow (w1.heap.size + 1) 48 4 v9 (arrL 0 ar).length ((arrL 0 ar).flatMap encA) := HO9.out
   have BV : Below wr.heap.size wr w9 := HB9.out
   obtain ⟨a9, c9, rfl⟩ := own_sl OV
   obtain ⟨v3, w3, r3, ho3, B3⟩ := run_push (W := w9.drew.alloc (.cells #[.int .i64 f, .slice a9 (arrL 0 ar).length c9] 33)) (f, arrL 0 ar) M _ vo (w1.heap.size + 1) (w1 := w9) rfl rfl rfl rfl (OwnSts.kept hown.out (grown_of_below' BV)) OV (by have := HTL.out; omega) (Nat.le_trans hs BV.size)
   obtain ⟨a3, cp3, rfl⟩ := ho3.sts.sl
   have B93 : Below wr.heap.size wr w9 := BV
   have HS9 : HeldG w.heap.size w1.heap.size b off n cap k vo f w9.drew := HeldG.below (w := wr) ⟨b2.out.cell 1 rfl, c1, g0⟩ (BV.mono hs).drew (by omega) (by omega)
   have HS8 : HeldG w.heap.size w1.heap.size b off n cap k vo f (w9.drew.alloc (.cells #[.int .i64 f, .slice a9 (arrL 0 ar).length c9] 33)) := HS9.below ((Below.refl _ _).alloc (by have := BV.size; show _ ≤ w9.heap.size; omega) _) (by omega) (by omega)
   have HS3 : HeldG w.heap.size w1.heap.size b off n cap k vo f w3 := HeldG.below (w := w9) HS9 B3 (by omega) (by omega)
   have HB3 : Hid (Below w.heap.size w w3) := (hb.out.trans (BV.mono hb.out.size)).trans (B3.mono (by omega))
   have D0 : Hid (Blk w3 w.heap.size #[.int .i64 z, .slice (some ⟨b, off, none⟩) n cap] 24) := (b0.out.below BV (by omega)).below B3 (by omega)
   have D1 : Hid (Blk w3 (w.heap.size + 1) #[.int .i64 0, .slice none 0 0] 24) := (b1.out.below BV (by omega)).below B3 (by omega)
   have D2 : Hid (Blk w3 w1.heap.size #[.int .i64 z, vo] 24) := (b2.out.below BV (by omega)).below B3 (by omega)
   have e1 := D2.out.cell 1 (v := vo) rfl
   have e2 := D2.out.fz 1
   have HOS : Hid (OwnSts w3 (w1.heap.size + 1) (.slice a3 (M ++ [(f, arrL 0 ar)]).length cp3) (M ++ [(f, arrL 0 ar)])) := ho3
   have HZ3 : Hid (w1.heap.size + 1 ≤ w3.heap.size) := Nat.le_trans (Nat.le_trans hs BV.size) B3.size
   clear ho3 B3 BV OV hown b0 b1 b2 hb HO9 HB9 GA g0 g1 c1 B93
   generalize (M ++ [(f, arrL 0 ar)]).length = q at *
   refine region_anyL (HeldG w.heap.size w1.heap.size b off n cap k vo f) 13 (by kernel_rfl) ?_
   refine anyL_tk (i := 0) (v := ?v0_1) aZ0 (by kernel_rfl) ?y0_1 HS9 ?r0_1
   case y0_1 => intro wx hx; obtain ⟨h1, h2, h3⟩ := hx; go_simp; try (with_reducible rfl)
   simp only [Act.put, List.setIfInBounds_toArray, List.set_cons_zero, List.set_cons_succ]
   refine anyL_tk (i := 1) (v := ?v1_2) aZ1 (by kernel_rfl) ?y1_2 HS9 ?r1_2
   case y1_2 => intro wx hx; obtain ⟨h1, h2, h3⟩ := hx; go_simp; try (with_reducible rfl)
   simp only [Act.put, List.setIfInBounds_toArray, List.set_cons_zero, List.set_cons_succ]
   refine anyL_tk (i := 2) (v := ?v2_3) aZ2 (by kernel_rfl) ?y2_3 HS9 ?r2_3
   case y2_3 => intro wx hx; obtain ⟨h1, h2, h3⟩ := hx; go_simp; try (with_reducible rfl)
   simp only [Act.put, List.setIfInBounds_toArray, List.set_cons_zero, List.set_cons_succ]
   refine anyL_tk (i := 3) (v := ?v3_4) aZ3 (by kernel_rfl) ?y3_4 HS9 ?r3_4
   case y3_4 => intro wx hx; obtain ⟨h1, h2, h3⟩ := hx; go_simp; try (with_reducible rfl)
   simp only [Act.put, List.setIfInBounds_toArray, List.set_cons_zero, List.set_cons_succ]
   refine anyL_tk (i := 4) (v := ?v4_5) aZ4 (by kernel_rfl) ?y4_5 HS9 ?r4_5
   case y4_5 => intro wx hx; obtain ⟨h1, h2, h3⟩ := hx; go_simp; try (with_reducible rfl)
   simp only [Act.put, List.setIfInBounds_toArray, List.set_cons_zero, List.set_cons_succ]
   refine anyL_tk (i := 5) (v := ?v5_6) aZ5 (by kernel_rfl) ?y5_6 HS9 ?r5_6
   case y5_6 => intro wx hx; obtain ⟨h1, h2, h3⟩ := hx; go_simp; try (with_reducible rfl)
   simp only [Act.put, List.setIfInBounds_toArray, List.set_cons_zero, List.set_cons_succ]
   refine anyL_tk (i := 6) (v := ?v6_7) aZ6 (by kernel_rfl) ?y6_7 HS9 ?r6_7
   case y6_7 => intro wx hx; obtain ⟨h1, h2, h3⟩ := hx; go_simp; try (with_reducible rfl)
   simp only [Act.put, List.setIfInBounds_toArray, List.set_cons_zero, List.set_cons_succ]
   refine anyL_tk (i := 7) (v := ?v7_8) aZ7 (by kernel_rfl) ?y7_8 HS9 ?r7_8
   case y7_8 => intro wx hx; obtain ⟨h1, h2, h3⟩ := hx; go_simp; try (with_reducible rfl)
   simp only [Act.put, List.setIfInBounds_toArray, List.set_cons_zero, List.set_cons_succ]
   refine anyL_tk (i := 8) (v := ?v8_9) aZ8 (by kernel_rfl) ?y8_9 HS9 ?r8_9
   case y8_9 => intro wx hx; obtain ⟨h1, h2, h3⟩ := hx; go_simp; try (with_reducible rfl)
   simp only [Act.put, List.setIfInBounds_toArray, List.set_cons_zero, List.set_cons_succ]
   refine anyL_tk (i := 9) (v := ?v9_10) aZ9 (by kernel_rfl) ?y9_10 HS9 ?r9_10
   case y9_10 => intro wx hx; obtain ⟨h1, h2, h3⟩ := hx; go_simp; try (with_reducible rfl)
   simp only [Act.put, List.setIfInBounds_toArray, List.set_cons_zero, List.set_cons_succ]
   refine anyL_one (i := 10) aZ10 (by kernel_rfl) rfl (fun K hK => ?_)
   go_simp
   refine hK _ _ (.inr HS8) ?_
   try simp only [Act.put, List.setIfInBounds_toArray, List.set_cons_zero, List.set_cons_succ]
   refine anyL_one (i := 11) aZ11 (by kernel_rfl) rfl (fun K hK => ?_)
   refine wp_append_run (.tmp 49) (.tmp 58) 22 (by rfl) (by rfl) (by rfl) r3 (hK _ _ (.inr HS3) ?_)
   simp only [Act.put, List.setIfInBounds_toArray, List.set_cons_zero, List.set_cons_succ]
   refine anyL_tk (i := 12) (v := ?v12_11) aZ12 (by kernel_rfl) ?y12_11 HS3 ?r12_11
   case y12_11 => intro wx hx; obtain ⟨h1, h2, h3⟩ := hx; go_simp; try (with_reducible rfl)
   simp only [Act.put, List.setIfInBounds_toArray, List.set_cons_zero, List.set_cons_succ]
   refine anyL_one (i := 13) aZ13 (by kernel_rfl) rfl (fun K hK => ?_)
   go_simp
   refine hK _ _ (.inl rfl) (anyL_done (by kernel_rfl) (NoPanic.normal ?_))
   try simp only [Act.put, List.setIfInBounds_toArray, List.set_cons_zero, List.set_cons_succ]
   clear HS9 HS8 HS3 r3
   go_wp2
   go_roundw
   case rel => exact ⟨k + 1, _, by omega, by go_num, by rw [HT.out]; exact HOS.out.setCell (by show w1.heap.size < _; omega) _, D0.out.setO _ _ (by show w.heap.size ≠ w1.heap.size; omega), D1.out.setO _ _ (by show w.heap.size + 1 ≠ w1.heap.size; omega), D2.out.set 1 _, HB3.out.setCell (by show _ ≤ w1.heap.size; omega) _, by simp [World.setCell]; exact HZ3.out⟩
   case measure => simp [intOf]; omega
  ·have hke : k = n := by omega
   have HX : Hid (OwnSts wr (w1.heap.size + 1) vo (l.map fun s => (s.1, arrL 0 s.2))) := by have h := hown.out; rw [hke, ← HN.out, List.take_length] at h; exact h
   have hnl : ¬ (k : Int) < (n : Int) := by omega
   obtain ⟨av, cv, rfl⟩ := HX.out.sts.sl
   have e0 := b1.out.cell 0 (v := .int .i64 0) rfl
   have e1 := b1.out.cell 1 (v := .slice none 0 0) rfl
   have e2 := b1.out.fz 0
   have e3 := b1.out.fz 1
   have d0 := b2.out.cell 0 (v := .int .i64 z) rfl
   have d1 := b2.out.cell 1 (v := .slice av (l.map fun s => (s.1, arrL 0 s.2)).length cv) rfl
   have HB : Hid (Below w.heap.size w wr) := hb
   clear hke hown b0 b1 b2 hb
   generalize (l.map fun s => (s.1, arrL 0 s.2)).length = q at *
   go_wp2
   exact bodyPost_ret (v := .tuple #[.agg #[.int .i64 z, .slice av q cv], .int .i64 0]) (by simp [results, Tryz.results15, go_sem, *]) rfl ⟨_, rfl, ⟨_, rfl, ((HX.out.setCell (by show w.heap.size + 1 < _; omega) _).setCell (by show w.heap.size + 1 < _; omega) _).sts⟩, by (have h := HB.out); go_grown⟩
theorem fF_empL (l : List St) : fF l l.length = !empB l := by
 unfold fF empB
 rw [List.take_length, Bool.eq_iff_iff]
 simp only [List.all_eq_true, Bool.not_eq_true', List.any_eq_false, Bool.not_eq_true, fullA]
theorem fC_empL {z : Int} {l : List St} (hr : faultM (z, l) = 0) : fC l l.length = (!empB l && l.all (fun s => onceB s.2)) := by
 rw [(flags_same hr).2.2.1, ← (flags_same hr).2.1, fF_empL]
theorem like_lst (z : Int) (a : Option Addr) (cap : Nat) (l : List St) (w : World) (hM : Mach w (.agg #[.int .i64 z, .slice a l.length cap]) (z, l)) (hok : okM (z, l)) (hr : faultM (z, l) = 0) (bE bO : Bool) (hE : empB l = bE) (hO : l.all (fun s => onceB s.2) = bO) :
  ∃ b1 b4 b5 : Bool, ∀ W, Below w.heap.size w W → Calls Tryz.prog 13 #[.agg #[.int .i64 z, .slice a l.length cap]] W fun e w' => e = .returned (.tuple #[.agg #[.bool b1, .bool (!bE), .bool (!bE && bO), .bool b4, .bool b5], .int .i64 0]) ∧ Below W.heap.size W w' := by
 have HM := hidP hM
 obtain ⟨vs', hv', hSt⟩ := hM
 obtain ⟨a9, cap9, hv9, hc9⟩ := hSt.get
 subst hv9
 simp only [Value.agg.injEq, Array.mk.injEq, List.cons.injEq, and_true, true_and, Value.slice.injEq] at hv'
 obtain ⟨ea, ec⟩ := hv'
 subst ea
 subst ec
 simp only at hc9
 refine ⟨fA l l.length, fS l l.length, fP l l.length, fun W hW => ?_⟩
 have := like_ok z a cap l W (HM.out.later hW (Nat.le_refl _)) hok hr (fun j hj => by
  obtain ⟨b, off, va, h1, h2, h3, h4, h5⟩ := hc9 j hj
  exact ⟨b, off, va, h1, Nat.lt_of_lt_of_le h2 hW.size, (hW.cell (p := ⟨b, off + j * 2, none⟩) h2).trans h3, (hW.cell (p := ⟨b, off + j * 2 + 1, none⟩) h2).trans h4, h5.later hW (Nat.le_refl _)⟩)
 rw [fF_empL, fC_empL hr, hE, hO] at this
 exact this
set_option maxRecDepth 100000 in
theorem madeLeast_bad (v : Value) (m : Mc) (w : World) (h : Mach w v m) (hok : okM m) (r : Int) (hr : faultM m = r) (h0 : ¬ r = 0) :
  Calls Tryz.prog 6 #[v] w fun e w' => PshOwn (SmlAns m) w e w' := by
 have HLK := hidP (fun W (hW : Below w.heap.size w W) => like_bad v m W (h.later hW (Nat.le_refl _)) hok r hr h0)
 have HAN : Hid (SmlAns m (0, []) 0 r) := .inl ⟨by rw [hr]; exact h0, rfl, rfl, hr.symm⟩
 obtain ⟨vs, rfl, hS⟩ := h
 obtain ⟨a, cap, rfl⟩ := hS.sl
 have hrn : (r != 0) = true := by simpa using h0
 clear hS hok hr h0
 generalize SmlAns m = Q at *
 generalize m.2.length = n at *
 generalize m.1 = z at *
 go_enter Tryz.func6, Tryz.ntmps6
 go_upto_region 2 with (first
  | (go_at_call 13; (with_reducible refine (HLK.out _ (by go_grown)).mono ?_); rintro e w1 ⟨rfl, hb⟩; obtain ⟨s1, k0, k1, hb1⟩ := boxedTwo hb (by simp); have HB1 := hidP hb1; have K1 := hidP k1; have e0 := k1.cell 0 (v := .int .i64 0) rfl; have e1 := k1.cell 1 (v := .slice none 0 0) rfl; have g0 := k1.fz 0; have g1 := k1.fz 1; have l1 := k1.lt; clear hb hb1 k0 k1 HLK))
 repeat (first | go_skip | go_guarded | go_step | go_upon)
 exact bodyPost_ret (res_lst _ _ (w.heap.size + 1) 0 r _ _ (((K1.out.set 0 (.int .i64 0)).set 1 (.slice none 0 0)).alloc _) rfl rfl rfl) rfl ⟨_, _, _, _, rfl, HAN.out, .inl ⟨rfl, mach_zeroR _⟩, ((HB1.out.setCell (p := ⟨w.heap.size + 1, 0, none⟩) (by show w.heap.size ≤ w.heap.size + 1; omega) _).setCell (p := ⟨w.heap.size + 1, 1, none⟩) (by show w.heap.size ≤ w.heap.size + 1; omega) _).alloc (by simp [World.setCell]; omega) _⟩
set_option maxRecDepth 100000 in
theorem madeLeast_emp (z : Int) (a : Option Addr) (cap : Nat) (l : List St) (w : World) (hM : Mach w (.agg #[.int .i64 z, .slice a l.length cap]) (z, l)) (hok : okM (z, l)) (hr : faultM (z, l) = 0) (he : empB l = true) :
  Calls Tryz.prog 6 #[.agg #[.int .i64 z, .slice a l.length cap]] w fun e w' => PshOwn (SmlAns (z, l)) w e w' := by
 obtain ⟨b1, b4, b5, hLK⟩ := like_lst z a cap l w hM hok hr true _ he rfl
 simp only [Bool.not_true, Bool.false_and] at hLK
 have HLK := hidP hLK
 have HAN : Hid (SmlAns (z, l) (0, []) 0 7) := .inr (.inl ⟨hr, he, rfl, rfl, rfl⟩)
 have hnot : ∀ (x : Bool) (w : World), (Op.unary .not (.bool x)).run Tryz.prog w = .ok (.bool (!x)) w := fun _ _ => rfl
 clear hM hok hr he hLK
 generalize SmlAns (z, l) = Q at *
 generalize l.length = n at *
 go_enter Tryz.func6, Tryz.ntmps6
 go_upto_region 4 with (first
  | (go_at_call 13; (with_reducible refine (HLK.out _ (by go_grown)).mono ?_); rintro e w1 ⟨rfl, hb⟩; obtain ⟨s1, k0, k1, hb1⟩ := boxedTwo hb (by simp); have HB1 := hidP hb1; have K1 := hidP k1; have e0 := k1.cell 0 (v := .int .i64 0) rfl; have e1 := k1.cell 1 (v := .slice none 0 0) rfl; have g0 := k1.fz 0; have g1 := k1.fz 1; have l1 := k1.lt; clear hb hb1 k0 k1 HLK))
 repeat (first | go_skip | go_guarded | go_step | go_upon)
 exact bodyPost_ret (res_lst _ _ (w.heap.size + 1) 0 7 _ _ (((K1.out.set 0 (.int .i64 0)).set 1 (.slice none 0 0)).alloc _) rfl rfl rfl) rfl ⟨_, _, _, _, rfl, HAN.out, .inl ⟨rfl, mach_zeroR _⟩, ((HB1.out.setCell (p := ⟨w.heap.size + 1, 0, none⟩) (by show w.heap.size ≤ w.heap.size + 1; omega) _).setCell (p := ⟨w.heap.size + 1, 1, none⟩) (by show w.heap.size ≤ w.heap.size + 1; omega) _).alloc (by simp [World.setCell]; omega) _⟩
set_option maxRecDepth 100000 in
theorem madeLeast_twin (z : Int) (a : Option Addr) (cap : Nat) (l : List St) (w : World) (hM : Mach w (.agg #[.int .i64 z, .slice a l.length cap]) (z, l)) (hok : okM (z, l)) (hr : faultM (z, l) = 0) (he : empB l = false) (ho : l.all (fun s => onceB s.2) = false) :
  Calls Tryz.prog 6 #[.agg #[.int .i64 z, .slice a l.length cap]] w fun e w' => PshOwn (SmlAns (z, l)) w e w' := by
 obtain ⟨b1, b4, b5, hLK⟩ := like_lst z a cap l w hM hok hr false false he ho
 simp only [Bool.not_false, Bool.true_and] at hLK
 have HLK := hidP hLK
 have HAN : Hid (SmlAns (z, l) (0, []) 0 8) := .inr (.inr (.inl ⟨hr, he, ho, rfl, rfl, rfl⟩))
 have hnot : ∀ (x : Bool) (w : World), (Op.unary .not (.bool x)).run Tryz.prog w = .ok (.bool (!x)) w := fun _ _ => rfl
 clear hM hok hr he ho hLK
 generalize SmlAns (z, l) = Q at *
 generalize l.length = n at *
 go_enter Tryz.func6, Tryz.ntmps6
 go_upto_region 6 with (first
  | (go_at_call 13; (with_reducible refine (HLK.out _ (by go_grown)).mono ?_); rintro e w1 ⟨rfl, hb⟩; obtain ⟨s1, k0, k1, hb1⟩ := boxedTwo hb (by simp); have HB1 := hidP hb1; have K1 := hidP k1; have e0 := k1.cell 0 (v := .int .i64 0) rfl; have e1 := k1.cell 1 (v := .slice none 0 0) rfl; have g0 := k1.fz 0; have g1 := k1.fz 1; have l1 := k1.lt; clear hb hb1 k0 k1 HLK))
 repeat (first | go_skip | go_guarded | go_step | go_upon)
 exact bodyPost_ret (res_lst _ _ (w.heap.size + 1) 0 8 _ _ (((K1.out.set 0 (.int .i64 0)).set 1 (.slice none 0 0)).alloc _) rfl rfl rfl) rfl ⟨_, _, _, _, rfl, HAN.out, .inl ⟨rfl, mach_zeroR _⟩, ((HB1.out.setCell (p := ⟨w.heap.size + 1, 0, none⟩) (by show w.heap.size ≤ w.heap.size + 1; omega) _).setCell (p := ⟨w.heap.size + 1, 1, none⟩) (by show w.heap.size ≤ w.heap.size + 1; omega) _).alloc (by simp [World.setCell]; omega) _⟩
theorem arrL_zero (l : List Ar) : arrL 0 l = sortS false l := by
 unfold arrL
 rw [if_neg (by decide), if_neg (by decide)]
theorem madeLeast_own (v : Value) (m : Mc) (w : World) (h : Mach w v m) (hok : okM m) :
  Calls Tryz.prog 6 #[v] w fun e w' => PshOwn (SmlAns m) w e w' := by
 by_cases fa : faultM m = 0
 ·obtain ⟨z, l⟩ := m
  have h2 := h
  obtain ⟨vs, rfl, hS⟩ := h2
  obtain ⟨a, cap, rfl⟩ := hS.sl
  simp only at h ⊢
  cases he : empB l
  ·cases ho : l.all (fun s => onceB s.2)
   ·exact madeLeast_twin z a cap l w h hok fa he ho
   ·obtain ⟨b1, b4, b5, hLK⟩ := like_lst z a cap l w h hok fa false true he ho
    simp only [Bool.not_false, Bool.true_and] at hLK
    refine (madeLeast_end z l a cap w b1 b4 b5 hLK (fun W hW => pushed_any _ _ W (h.later hW (Nat.le_refl _)) hok) (fun W v p hv hp => ?_)).mono ?_
    ·have h9 := refArranged_ok0 v p W hv (right_okM hp) hp
     have e : mapM (arrL 0) p = srtM p := by have e2 : arrL 0 = sortS false := funext arrL_zero; unfold srtM; rw [e2]
     rw [e] at h9
     exact h9
    ·rintro e w' ⟨v, x, t, ec, rfl, hq, hi, hb⟩
     exact ⟨v, x, t, ec, rfl, .inr (.inr (.inr ⟨fa, he, ho, hq⟩)), hi, hb⟩
  ·exact madeLeast_emp z a cap l w h hok fa he
 ·exact madeLeast_bad v m w h hok _ rfl fa
theorem madeLeast_any (v : Value) (m : Mc) (w : World) (h : Mach w v m) (hok : okM m) :
  Calls Tryz.prog 6 #[v] w fun e w' => PshRes (SmlAns m) w e w' := (madeLeast_own v m w h hok).mono fun _ _ h => h.res
end Go.Proofs.YthajkkobgfighaaGreatDoor.Wt
