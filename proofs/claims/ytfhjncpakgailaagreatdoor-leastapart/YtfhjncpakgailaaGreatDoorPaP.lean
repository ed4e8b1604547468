/- tropicakeep.full and small: a certain machine of raw numbers, made as small as can be. -/
import Derived.Test.YtfhjncpakgailaaGreatDoorPac
import Derived.Test.YtfhjncpakgailaaGreatDoorPah
import Derived.Test.YtfhjncpakgailaaGreatDoorPau
import Derived.Test.YtfhjncpakgailaaGreatDoorPaN
import Derived.Test.YtfhjncpakgailaaGreatDoorPaO
namespace Go.Proofs.YtfhjncpakgailaaGreatDoor.Wt
open Go.ChangeShapes Go.WideShapes Go.ChangeAt Go.RowKit
open Go.Proofs.YtfhjncpakgailaaGreatDoor.Pl
set_option linter.unusedVariables false
set_option linter.unusedSimpArgs false
theorem res_sml (tm : Array Value) (W : World) (R1 R2 : Nat) (tot : Int) (bb : Bool) (x0 x1 y0 y1 : Value) (hA : Blk W R1 #[x0, x1] 29) (hB : Blk W R2 #[y0, y1] 29) (h2 : tm.getD 4 undef = .pointer (some ⟨R1, 0, none⟩)) (h5 : tm.getD 5 undef = .pointer (some ⟨R2, 0, none⟩)) (h3 : tm.getD 6 undef = .int .i64 tot) (h4 : tm.getD 7 undef = .bool bb) : (results Tryz.f10 tm).run Tryz.prog W = .ok (.tuple #[.agg #[x0, x1], .agg #[y0, y1], .int .i64 tot, .bool bb]) W := by
 have c0 := hA.cell 0 (v := x0) rfl
 have c1 := hA.cell 1 (v := x1) rfl
 have d0 := hB.cell 0 (v := y0) rfl
 have d1 := hB.cell 1 (v := y1) rfl
 simp only [Array.getD_eq_getD_getElem?] at h2 h3 h4 h5
 simp [results, Tryz.results10, go_sem, h2, h3, h4, h5, c0, c1, d0, d1]
def HeldNf (bu bv : Nat) (x0 x1 y0 y1 : Value) (w : World) : Prop := w.cell? ⟨bu, 0, none⟩ = some x0 ∧ w.cell? ⟨bu, 1, none⟩ = some x1 ∧ w.cell? ⟨bv, 0, none⟩ = some y0 ∧ w.cell? ⟨bv, 1, none⟩ = some y1
structure CerK (rx : Rw) (k : Nat) (U : Mc) : Prop where
 eq : cerA (madeM rx k true) = (U, 0)
 right : faultM U = 0
 cheap : CheapL U.2
 crt : CrtL U.2
 pos : 0 < U.2.length
 zero : U.1 = 0
theorem cerK_two (rx : Rw) (k : Nat) (h0 : 0 < k) (h8 : k ≤ 8) : cerA (madeM rx k true) = ((0, []), 5) ∨ ∃ U, CerK rx k U := by
 have hfx : faultM (madeM rx k true) = 0 := madeM_right rx k h0 h8 true
 have hlow : LowL 9 (madeM rx k true).2 := made_nine rx k true
 have hzx : 0 ≤ (madeM rx k true).1 := made_ge rx k true h0
 have hex : empB (madeM rx k true).2 = false := noEmp_empB (made_noEmp rx k)
 rcases cer_two hfx hzx hex (W := 9) (by omega) hlow with h | ⟨U, hE, hcu⟩
 ·exact .inl h
 ·obtain ⟨hfu, hup, hu0⟩ := cer_right hfx hzx hE
  refine .inr ⟨U, hE, hfu, hcu, crt_iff.2 ⟨cer_full hfx hzx hE, List.all_eq_true.2 fun s hs => ?_⟩, hup, hu0⟩
  obtain ⟨q, hq, rfl⟩ := mem_el hs
  exact (ltP_once (cer_pairs hfx hzx hE hq)).1
set_option maxRecDepth 100000 in
set_option maxHeartbeats 1600000 in
theorem full5_any (vx : Value) (rx : Rw) (w : World) (hx : RawV w vx rx) (hokx : okR rx) (hwfx : wfR rx) (U : Mc) (ec : Int) (hE : cerA (madeM rx 5 true) = (U, ec)) (b : Bool) (hb : (ec == 5) = b) (htab : Tab w) :
  Calls Tryz.prog 9 #[vx, .int .i64 5] w fun e w' => e = .returned (.bool b) ∧ Below w.heap.size w w' := by
 have HTB : Hid (Tab w) := htab
 clear htab
 have HIx : Hid (RawV w vx rx) := hx
 have HOKx : Hid (okR rx) := hokx
 have HWFx : Hid (wfR rx) := hwfx
 have hfx : faultM (madeM rx 5 true) = 0 := madeM_right rx 5 (by omega) (by omega) true
 have HEx : Hid (∀ v W, RawV W v rx → okR rx → wfR rx → Calls Tryz.prog 27 #[v, .int .i64 5, .bool true] W fun e w' => ∃ v', e = .returned v' ∧ Mach w' v' (madeM rx 5 true) ∧ Below W.heap.size W w') := fun v W h1 h2 h3 => made_any v rx 5 true W h1 h2 h3 (by omega) (by omega)
 have HUu : Hid (∀ W v, Tab W → Mach W v (madeM rx 5 true) → Calls Tryz.prog 26 #[v] W fun e w' => RatOwn U ec W e w') := fun W v hT h1 => by
  have := certP_own v _ W h1 (right_ok hfx) hT
  rw [hE] at this
  exact this
 obtain ⟨vs0x, rfl, hNx⟩ := hx
 obtain ⟨a0x, c0x, rfl, hNxx⟩ := hNx.get
 clear hNx hNxx hokx hwfx hfx hE
 generalize madeM rx 5 true = Mx at *
 have HB0 : Hid (∀ o1, Below w.heap.size w (w.alloc o1)) := fun o1 => (Below.refl _ _).alloc (Nat.le_refl _) _
 go_enter Tryz.func9, Tryz.ntmps9
 go_wp2_with (first
  | (go_at_call 27; (with_reducible refine (HEx.out _ _ (HIx.out.later (HB0.out _) (Nat.le_refl _)) HOKx.out HWFx.out).mono ?_); rintro e w1 ⟨v1, rfl, hm, hb⟩; have HMx : Hid (Mach w1 v1 (Mx)) := hm; obtain ⟨vsx, rfl, hSx⟩ := hm; obtain ⟨ax, cx, rfl⟩ := hSx.sl; clear hSx; obtain ⟨s1, bb0, hb1⟩ := boxed hb (by simp); have KX1 := hidP bb0; clear bb0; have HB1 := hidP hb1; have qX0 := KX1.out.cell 0 (v := .int .i64 rx.1) rfl; have qX1 := KX1.out.cell 1 (v := .slice a0x rx.2.length c0x) rfl; clear hb hb1)
  | (go_at_call 26; (with_reducible refine (HUu.out _ _ (HTB.out.later HB1.out) (HMx.out.later (Below.refl _ _) (Nat.le_refl _))).mono ?_); rintro e w2 ⟨v2, rfl, hs, hb⟩; have hm := hs.mach; clear hs; have HMu : Hid (Mach w2 v2 (U)) := hm; obtain ⟨vsu, rfl, hSu⟩ := hm; obtain ⟨au, cu, rfl⟩ := hSu.sl; clear hSu; have hb2 := hb; have HB2 := hidP (HB1.out.trans (hb2.mono HB1.out.size)); have KX2 := hidP (KX1.out.below hb2 KX1.out.lt); have Hx2 := hidP hb2; have qX0 := (KX2.out.alloc (.cells #[.int .i64 U.1, .slice au U.2.length cu] 29)).cell 0 (v := .int .i64 rx.1) rfl; have qX1 := (KX2.out.alloc (.cells #[.int .i64 U.1, .slice au U.2.length cu] 29)).cell 1 (v := .slice a0x rx.2.length c0x) rfl; clear hb hb2))
 go_ret
 exact ⟨by first | rfl | rw [hb], HB2.out.alloc HB2.out.size _⟩
set_option maxRecDepth 100000 in
set_option maxHeartbeats 6400000 in
theorem small5_any (vx : Value) (rx : Rw) (w : World) (hx : RawV w vx rx) (hokx : okR rx) (hwfx : wfR rx) (U : Mc) (hE : cerA (madeM rx 5 true) = (U, 0)) (hfu : faultM U = 0) (hcu : CheapL U.2) (hru : CrtL U.2) (htab : Tab w) :
  Calls Tryz.prog 10 #[vx, .int .i64 5] w fun e w' => ∃ v1 v2 Y, ∃ tt : Int, e = .returned (.tuple #[v1, v2, .int .i64 tt, .bool true]) ∧ (∃ p T vs, SmlU U Y tt p T vs) ∧ Mach w' v1 U ∧ Mach w' v2 Y ∧ Below w.heap.size w w' := by
 have HTB : Hid (Tab w) := htab
 clear htab
 have HIx : Hid (RawV w vx rx) := hx
 have HOKx : Hid (okR rx) := hokx
 have HWFx : Hid (wfR rx) := hwfx
 have hfx : faultM (madeM rx 5 true) = 0 := madeM_right rx 5 (by omega) (by omega) true
 have HEx : Hid (∀ v W, RawV W v rx → okR rx → wfR rx → Calls Tryz.prog 27 #[v, .int .i64 5, .bool true] W fun e w' => ∃ v', e = .returned v' ∧ Mach w' v' (madeM rx 5 true) ∧ Below W.heap.size W w') := fun v W h1 h2 h3 => made_any v rx 5 true W h1 h2 h3 (by omega) (by omega)
 have HUu : Hid (∀ W v, Tab W → Mach W v (madeM rx 5 true) → Calls Tryz.prog 26 #[v] W fun e w' => RatOwn U 0 W e w') := fun W v hT h1 => by
  have := certP_own v _ W h1 (right_ok hfx) hT
  rw [hE] at this
  exact this
 obtain ⟨vs0x, rfl, hNx⟩ := hx
 obtain ⟨a0x, c0x, rfl, hNxx⟩ := hNx.get
 have HLU : Hid (∀ W v, Tab W → Mach W v U → Calls Tryz.prog 15 #[v] W fun e w' => PshOwn (SmlAns U) W e w') := fun W v hT h1 => leastMk_own v U W h1 (right_ok hfu) hT
 have HLE : Hid (∀ y t e, SmlAns U y t e → e = 0 ∧ ∃ p T vs, SmlU U y t p T vs) := fun y t e h => sml_cheap hfu hcu hru h
 clear hNx hNxx hokx hwfx hfx hE hfu hcu hru
 generalize madeM rx 5 true = Mx at *
 have HB0 : Hid (∀ o1 o2 o3, Below w.heap.size w (((w.alloc o1).alloc o2).alloc o3)) := fun o1 o2 o3 => (((Below.refl _ _).alloc (Nat.le_refl _) _).alloc (by simp) _).alloc (by simp; omega) _
 go_enter Tryz.func10, Tryz.ntmps10
 go_upto_region 4 with (first
  | (go_at_call 27; (with_reducible refine (HEx.out _ _ (HIx.out.later (HB0.out _ _ _) (Nat.le_refl _)) HOKx.out HWFx.out).mono ?_); rintro e w1 ⟨v1, rfl, hm, hb⟩; have HMx : Hid (Mach w1 v1 (Mx)) := hm; obtain ⟨vsx, rfl, hSx⟩ := hm; obtain ⟨ax, cx, rfl⟩ := hSx.sl; clear hSx; obtain ⟨s1, bb0, bb1, bb2, hb1⟩ := boxedThree hb (by simp); have KX1 := hidP bb0; have KRa1 := hidP bb1; have KRb1 := hidP bb2; clear bb0 bb1 bb2; have HB1 := hidP hb1; have qX0 := (KX1.out.alloc (.cells #[.int .i64 Mx.1, .slice ax Mx.2.length cx] 29)).cell 0 (v := .int .i64 rx.1) rfl; have qX1 := (KX1.out.alloc (.cells #[.int .i64 Mx.1, .slice ax Mx.2.length cx] 29)).cell 1 (v := .slice a0x rx.2.length c0x) rfl; have qRa0 := (KRa1.out.alloc (.cells #[.int .i64 Mx.1, .slice ax Mx.2.length cx] 29)).cell 0 (v := .int .i64 0) rfl; have qRa1 := (KRa1.out.alloc (.cells #[.int .i64 Mx.1, .slice ax Mx.2.length cx] 29)).cell 1 (v := .slice none 0 0) rfl; have qRb0 := (KRb1.out.alloc (.cells #[.int .i64 Mx.1, .slice ax Mx.2.length cx] 29)).cell 0 (v := .int .i64 0) rfl; have qRb1 := (KRb1.out.alloc (.cells #[.int .i64 Mx.1, .slice ax Mx.2.length cx] 29)).cell 1 (v := .slice none 0 0) rfl; clear hb hb1)
  | (go_at_call 26; (with_reducible refine (HUu.out _ _ (HTB.out.later (HB1.out.alloc HB1.out.size _)) (HMx.out.later ((Below.refl _ _).alloc (Nat.le_refl _) _) (Nat.le_refl _))).mono ?_); rintro e w2 ⟨v2, rfl, hs, hb⟩; have hm := hs.mach; have HSu := hidP hs; clear hs; have HMu : Hid (Mach w2 v2 (U)) := hm; obtain ⟨vsu, rfl, hSu⟩ := hm; obtain ⟨au, cu, rfl⟩ := hSu.sl; clear hSu; obtain ⟨s2, bb0, hb2⟩ := boxed hb (by simp); have KVx2 := hidP bb0; clear bb0; have HB2 := hidP (HB1.out.trans (hb2.mono HB1.out.size)); have KX2 := hidP (KX1.out.below hb2 KX1.out.lt); have KRa2 := hidP (KRa1.out.below hb2 KRa1.out.lt); have KRb2 := hidP (KRb1.out.below hb2 KRb1.out.lt); have Hx2 := hidP hb2; have qX0 := (KX2.out.alloc (.cells #[.int .i64 U.1, .slice au U.2.length cu] 29)).cell 0 (v := .int .i64 rx.1) rfl; have qX1 := (KX2.out.alloc (.cells #[.int .i64 U.1, .slice au U.2.length cu] 29)).cell 1 (v := .slice a0x rx.2.length c0x) rfl; have qRa0 := (KRa2.out.alloc (.cells #[.int .i64 U.1, .slice au U.2.length cu] 29)).cell 0 (v := .int .i64 0) rfl; have qRa1 := (KRa2.out.alloc (.cells #[.int .i64 U.1, .slice au U.2.length cu] 29)).cell 1 (v := .slice none 0 0) rfl; have qRb0 := (KRb2.out.alloc (.cells #[.int .i64 U.1, .slice au U.2.length cu] 29)).cell 0 (v := .int .i64 0) rfl; have qRb1 := (KRb2.out.alloc (.cells #[.int .i64 U.1, .slice au U.2.length cu] 29)).cell 1 (v := .slice none 0 0) rfl; have qVx0 := (KVx2.out.alloc (.cells #[.int .i64 U.1, .slice au U.2.length cu] 29)).cell 0 (v := .int .i64 Mx.1) rfl; have qVx1 := (KVx2.out.alloc (.cells #[.int .i64 U.1, .slice au U.2.length cu] 29)).cell 1 (v := .slice ax Mx.2.length cx) rfl; clear hb hb2)
  | (go_at_call 15; (with_reducible refine (HLU.out _ _ (HTB.out.later (HB2.out.alloc HB2.out.size _)) (HMu.out.later ((Below.refl _ _).alloc (Nat.le_refl _) _) (Nat.le_refl _))).mono ?_); rintro e w3 ⟨v3, Y, tt, ey, rfl, hq, hs, hb⟩; have hm := hs.mach; have HSy := hidP hs; clear hs; have HMy : Hid (Mach w3 v3 (Y)) := hm; obtain ⟨vsy, rfl, hSy⟩ := hm; obtain ⟨ay, cy, rfl⟩ := hSy.sl; clear hSy; obtain ⟨rfl, hq2⟩ := HLE.out _ _ _ hq; have HQY := hidP hq2; clear hq hq2; obtain ⟨s3, bb0, hb3⟩ := boxed hb (by simp); have KVu3 := hidP bb0; clear bb0; have HB3 := hidP (HB2.out.trans (hb3.mono HB2.out.size)); have KX3 := hidP (KX2.out.below hb3 KX2.out.lt); have KRa3 := hidP (KRa2.out.below hb3 KRa2.out.lt); have KRb3 := hidP (KRb2.out.below hb3 KRb2.out.lt); have KVx3 := hidP (KVx2.out.below hb3 KVx2.out.lt); have Hx3 := hidP (Hx2.out.trans (hb3.mono Hx2.out.size)); have Hu3 := hidP hb3; have qX0 := (KX3.out.alloc (.cells #[.int .i64 Y.1, .slice ay Y.2.length cy] 29)).cell 0 (v := .int .i64 rx.1) rfl; have qX1 := (KX3.out.alloc (.cells #[.int .i64 Y.1, .slice ay Y.2.length cy] 29)).cell 1 (v := .slice a0x rx.2.length c0x) rfl; have qRa0 := (KRa3.out.alloc (.cells #[.int .i64 Y.1, .slice ay Y.2.length cy] 29)).cell 0 (v := .int .i64 0) rfl; have qRa1 := (KRa3.out.alloc (.cells #[.int .i64 Y.1, .slice ay Y.2.length cy] 29)).cell 1 (v := .slice none 0 0) rfl; have qRb0 := (KRb3.out.alloc (.cells #[.int .i64 Y.1, .slice ay Y.2.length cy] 29)).cell 0 (v := .int .i64 0) rfl; have qRb1 := (KRb3.out.alloc (.cells #[.int .i64 Y.1, .slice ay Y.2.length cy] 29)).cell 1 (v := .slice none 0 0) rfl; have qVx0 := (KVx3.out.alloc (.cells #[.int .i64 Y.1, .slice ay Y.2.length cy] 29)).cell 0 (v := .int .i64 Mx.1) rfl; have qVx1 := (KVx3.out.alloc (.cells #[.int .i64 Y.1, .slice ay Y.2.length cy] 29)).cell 1 (v := .slice ax Mx.2.length cx) rfl; have qVu0 := (KVu3.out.alloc (.cells #[.int .i64 Y.1, .slice ay Y.2.length cy] 29)).cell 0 (v := .int .i64 U.1) rfl; have qVu1 := (KVu3.out.alloc (.cells #[.int .i64 Y.1, .slice ay Y.2.length cy] 29)).cell 1 (v := .slice au U.2.length cu) rfl; clear hb hb3))
 have hA4 := (Below.refl w3.heap.size w3).alloc (Nat.le_refl _) (.cells #[.int .i64 Y.1, .slice ay Y.2.length cy] 29)
 have nuy : w2.heap.size ≠ w3.heap.size := by have := KVu3.out.lt; omega
 have nau : w.heap.size + 1 ≠ w2.heap.size := by have := KRa2.out.lt; omega
 have nbu : w.heap.size + 2 ≠ w2.heap.size := by have := KRb2.out.lt; omega
 have nay : w.heap.size + 1 ≠ w3.heap.size := by have := KRa3.out.lt; omega
 have nby : w.heap.size + 2 ≠ w3.heap.size := by have := KRb3.out.lt; omega
 have RA := hidP (KRa3.out.below hA4 KRa3.out.lt)
 have RB := hidP (KRb3.out.below hA4 KRb3.out.lt)
 have XU := hidP (KVu3.out.below hA4 KVu3.out.lt)
 have XY := hidP (Blk.made w3 #[.int .i64 Y.1, .slice ay Y.2.length cy] 29)
 have SU := hidP ((HSu.out.later Hu3.out).later hA4)
 have SY := hidP (HSy.out.later hA4)
 have B4 := hidP (HB3.out.trans (hA4.mono HB3.out.size))
 clear hA4 KRa3 KRb3 KVu3 HSu HSy HB3
 go_upto_region 4 with fail
 generalize w3.alloc (.cells #[.int .i64 Y.1, .slice ay Y.2.length cy] 29) = w4 at *
 generalize w2.heap.size = bu at *
 generalize w3.heap.size = by' at *
 have hDr := (Below.refl w4.heap.size w4).drew
 have RA5 : Blk w4.drew (w.heap.size + 1) #[.int .i64 0, .slice none 0 0] 29 := RA.out
 have RB5 : Blk w4.drew (w.heap.size + 2) #[.int .i64 0, .slice none 0 0] 29 := RB.out
 have XU5 : Blk w4.drew bu #[.int .i64 U.1, .slice au U.2.length cu] 29 := XU.out
 have XY5 : Blk w4.drew by' #[.int .i64 Y.1, .slice ay Y.2.length cy] 29 := XY.out
 have SU5 := hidP (SU.out.later hDr)
 have SY5 := hidP (SY.out.later hDr)
 have B5 := hidP (B4.out.trans (hDr.mono B4.out.size))
 have HT : HeldNf bu by' (.int .i64 U.1) (.slice au U.2.length cu) (.int .i64 Y.1) (.slice ay Y.2.length cy) w4.drew := ⟨XU5.cell 0 rfl, XU5.cell 1 rfl, XY5.cell 0 rfl, XY5.cell 1 rfl⟩
 clear RA RB XU XY SU SY B4 hDr
 refine region_anyL (HeldNf bu by' (.int .i64 U.1) (.slice au U.2.length cu) (.int .i64 Y.1) (.slice ay Y.2.length cy)) 1000 (by kernel_rfl) ?_
 generalize w4.drew = w5 at *
 refine anyL_tk (i := 0) (v := ?v0_10) aZ0 (by kernel_rfl) ?y0_10 HT ?r0_10
 case y0_10 => intro wx hx; obtain ⟨h0, h1, h2, h3⟩ := hx; go_simp; try (with_reducible rfl)
 simp only [Act.put, List.setIfInBounds_toArray, List.set_cons_zero, List.set_cons_succ]
 refine anyL_tk (i := 1) (v := ?v1_11) aZ1 (by kernel_rfl) ?y1_11 HT ?r1_11
 case y1_11 => intro wx hx; obtain ⟨h0, h1, h2, h3⟩ := hx; go_simp; try (with_reducible rfl)
 simp only [Act.put, List.setIfInBounds_toArray, List.set_cons_zero, List.set_cons_succ]
 refine anyL_tk (i := 2) (v := ?v2_12) aZ2 (by kernel_rfl) ?y2_12 HT ?r2_12
 case y2_12 => intro wx hx; obtain ⟨h0, h1, h2, h3⟩ := hx; go_simp; try (with_reducible rfl)
 simp only [Act.put, List.setIfInBounds_toArray, List.set_cons_zero, List.set_cons_succ]
 refine anyL_tk (i := 3) (v := ?v3_13) aZ3 (by kernel_rfl) ?y3_13 HT ?r3_13
 case y3_13 => intro wx hx; obtain ⟨h0, h1, h2, h3⟩ := hx; go_simp; try (with_reducible rfl)
 simp only [Act.put, List.setIfInBounds_toArray, List.set_cons_zero, List.set_cons_succ]
 refine anyL_tk (i := 4) (v := ?v4_14) aZ4 (by kernel_rfl) ?y4_14 HT ?r4_14
 case y4_14 => intro wx hx; obtain ⟨h0, h1, h2, h3⟩ := hx; go_simp; try (with_reducible rfl)
 simp only [Act.put, List.setIfInBounds_toArray, List.set_cons_zero, List.set_cons_succ]
 refine anyL_tk (i := 5) (v := ?v5_15) aZ5 (by kernel_rfl) ?y5_15 HT ?r5_15
 case y5_15 => intro wx hx; obtain ⟨h0, h1, h2, h3⟩ := hx; go_simp; try (with_reducible rfl)
 simp only [Act.put, List.setIfInBounds_toArray, List.set_cons_zero, List.set_cons_succ]
 refine anyL_tg (i := 6) (v := ?v6_21) aZ6 (by kernel_rfl) ?y6_21 HT ?r6_21
 case y6_21 => intro wx hx; obtain ⟨h0, h1, h2, h3⟩ := hx; go_simp; try (with_reducible rfl)
 simp only [Act.put, List.setIfInBounds_toArray, List.set_cons_zero, List.set_cons_succ]
 refine anyL_tg (i := 7) (v := ?v7_22) aZ7 (by kernel_rfl) ?y7_22 HT ?r7_22
 case y7_22 => intro wx hx; obtain ⟨h0, h1, h2, h3⟩ := hx; go_simp; try (with_reducible rfl)
 simp only [Act.put, List.setIfInBounds_toArray, List.set_cons_zero, List.set_cons_succ]
 refine anyL_tk (i := 8) (v := ?v8_16) aZ8 (by kernel_rfl) ?y8_16 HT ?r8_16
 case y8_16 => intro wx hx; obtain ⟨h0, h1, h2, h3⟩ := hx; go_simp; try (with_reducible rfl)
 simp only [Act.put, List.setIfInBounds_toArray, List.set_cons_zero, List.set_cons_succ]
 have e0 := RA5.cell 0 (v := .int .i64 0) rfl
 have e1 := RA5.cell 1 (v := .slice none 0 0) rfl
 have g0 := RA5.fz 0
 have g1 := RA5.fz 1
 refine anyL_one (i := 9) aZ9 (by kernel_rfl) rfl (fun K hK => ?_)
 go_simp
 have RA6 := (RA5.set 0 (.int .i64 U.1)).set 1 (.slice au U.2.length cu)
 have RB6 := (RB5.setO ⟨w.heap.size + 1, 0, none⟩ (.int .i64 U.1) (by show w.heap.size + 2 ≠ w.heap.size + 1; omega)).setO ⟨w.heap.size + 1, 1, none⟩ (.slice au U.2.length cu) (by show w.heap.size + 2 ≠ w.heap.size + 1; omega)
 have XU6 := (XU5.setO ⟨w.heap.size + 1, 0, none⟩ (.int .i64 U.1) (Ne.symm nau)).setO ⟨w.heap.size + 1, 1, none⟩ (.slice au U.2.length cu) (Ne.symm nau)
 have XY6 := (XY5.setO ⟨w.heap.size + 1, 0, none⟩ (.int .i64 U.1) (Ne.symm nay)).setO ⟨w.heap.size + 1, 1, none⟩ (.slice au U.2.length cu) (Ne.symm nay)
 have SU6 := hidP (SU5.out.store RA5 (.int .i64 U.1) (.slice au U.2.length cu))
 have SY6 := hidP (SY5.out.store RA5 (.int .i64 U.1) (.slice au U.2.length cu))
 have B6 := hidP ((B5.out.setCell (p := ⟨w.heap.size + 1, 0, none⟩) (by show w.heap.size ≤ w.heap.size + 1; omega) (.int .i64 U.1)).setCell (p := ⟨w.heap.size + 1, 1, none⟩) (by show w.heap.size ≤ w.heap.size + 1; omega) (.slice au U.2.length cu))
 clear e0 e1 g0 g1 HT
 generalize (w5.setCell ⟨w.heap.size + 1, 0, none⟩ (.int .i64 U.1)).setCell ⟨w.heap.size + 1, 1, none⟩ (.slice au U.2.length cu) = w6 at *
 have HT : HeldNf bu by' (.int .i64 U.1) (.slice au U.2.length cu) (.int .i64 Y.1) (.slice ay Y.2.length cy) w6 := ⟨XU6.cell 0 rfl, XU6.cell 1 rfl, XY6.cell 0 rfl, XY6.cell 1 rfl⟩
 refine hK _ _ (.inr HT) ?_
 try simp only [Act.put, List.setIfInBounds_toArray, List.set_cons_zero, List.set_cons_succ]
 have e0 := RB6.cell 0 (v := .int .i64 0) rfl
 have e1 := RB6.cell 1 (v := .slice none 0 0) rfl
 have g0 := RB6.fz 0
 have g1 := RB6.fz 1
 refine anyL_one (i := 10) aZ10 (by kernel_rfl) rfl (fun K hK => ?_)
 go_simp
 have RB7 := (RB6.set 0 (.int .i64 Y.1)).set 1 (.slice ay Y.2.length cy)
 have RA7 := (RA6.setO ⟨w.heap.size + 2, 0, none⟩ (.int .i64 Y.1) (by show w.heap.size + 1 ≠ w.heap.size + 2; omega)).setO ⟨w.heap.size + 2, 1, none⟩ (.slice ay Y.2.length cy) (by show w.heap.size + 1 ≠ w.heap.size + 2; omega)
 have XU7 := (XU6.setO ⟨w.heap.size + 2, 0, none⟩ (.int .i64 Y.1) (Ne.symm nbu)).setO ⟨w.heap.size + 2, 1, none⟩ (.slice ay Y.2.length cy) (Ne.symm nbu)
 have XY7 := (XY6.setO ⟨w.heap.size + 2, 0, none⟩ (.int .i64 Y.1) (Ne.symm nby)).setO ⟨w.heap.size + 2, 1, none⟩ (.slice ay Y.2.length cy) (Ne.symm nby)
 have SU7 := hidP (SU6.out.store RB6 (.int .i64 Y.1) (.slice ay Y.2.length cy))
 have SY7 := hidP (SY6.out.store RB6 (.int .i64 Y.1) (.slice ay Y.2.length cy))
 have B7 := hidP ((B6.out.setCell (p := ⟨w.heap.size + 2, 0, none⟩) (by show w.heap.size ≤ w.heap.size + 2; omega) (.int .i64 Y.1)).setCell (p := ⟨w.heap.size + 2, 1, none⟩) (by show w.heap.size ≤ w.heap.size + 2; omega) (.slice ay Y.2.length cy))
 clear e0 e1 g0 g1 HT
 generalize (w6.setCell ⟨w.heap.size + 2, 0, none⟩ (.int .i64 Y.1)).setCell ⟨w.heap.size + 2, 1, none⟩ (.slice ay Y.2.length cy) = w7 at *
 have HT : HeldNf bu by' (.int .i64 U.1) (.slice au U.2.length cu) (.int .i64 Y.1) (.slice ay Y.2.length cy) w7 := ⟨XU7.cell 0 rfl, XU7.cell 1 rfl, XY7.cell 0 rfl, XY7.cell 1 rfl⟩
 refine hK _ _ (.inr HT) ?_
 try simp only [Act.put, List.setIfInBounds_toArray, List.set_cons_zero, List.set_cons_succ]
 refine anyL_tk (i := 11) (v := ?v11_17) aZ11 (by kernel_rfl) ?y11_17 HT ?r11_17
 case y11_17 => intro wx hx; obtain ⟨h0, h1, h2, h3⟩ := hx; go_simp; try (with_reducible rfl)
 simp only [Act.put, List.setIfInBounds_toArray, List.set_cons_zero, List.set_cons_succ]
 refine anyL_tk (i := 12) (v := ?v12_18) aZ12 (by kernel_rfl) ?y12_18 HT ?r12_18
 case y12_18 => intro wx hx; obtain ⟨h0, h1, h2, h3⟩ := hx; go_simp; try (with_reducible rfl)
 simp only [Act.put, List.setIfInBounds_toArray, List.set_cons_zero, List.set_cons_succ]
 refine anyL_done (by kernel_rfl) (NoPanic.normal ?_)
 try simp only [Act.put, List.setIfInBounds_toArray, List.set_cons_zero, List.set_cons_succ]
 repeat (first | go_skip | go_guarded | go_step | go_upon)
 exact bodyPost_ret (res_sml _ _ (w.heap.size + 1) (w.heap.size + 2) tt true _ _ _ _ RA7 RB7 rfl rfl rfl rfl) rfl ⟨_, _, Y, tt, rfl, HQY.out, SU7.out.mach, SY7.out.mach, B7.out⟩
end Go.Proofs.YtfhjncpakgailaaGreatDoor.Wt
