/- The statement LeastOne: whatever numbers a machine is made of, and whatever states are doubled, one smallest machine comes of it, or it is too large to be made certain, for every input and without any condition (where the table of powers of ten that the standard library reads is as its text lays it: that is the card's tie). -/
import Derived.Test.YtfhjncpakgailaaGreatDoorCards
import Derived.Test.YtfhjncpakgailaaGreatDoorTie
import Derived.Test.YtfhjncpakgailaaGreatDoorKac
import Derived.Test.YtfhjncpakgailaaGreatDoorKah
import Derived.Test.YtfhjncpakgailaaGreatDoorKaQ
import Derived.Test.YtfhjncpakgailaaGreatDoorKaR
import Derived.Test.YtfhjncpakgailaaGreatDoorKaU
import Derived.Test.YtfhjncpakgailaaGreatDoorKas
import Derived.Test.YtfhjncpakgailaaGreatDoorKaT
import Derived.Test.YtfhjncpakgailaaGreatDoorKad
import Derived.Test.YtfhjncpakgailaaGreatDoorKag
import Derived.Lib.SmallJoins
import Derived.ChangeOld
import Derived.Below
import Derived.Deep.DeepHandedRow
import Derived.Stop.LaidErr
namespace Go.Proofs.YtfhjncpakgailaaGreatDoor.leastOne
open Go.ChangeShapes Go.WideShapes Go.ChangeAt Go.RowKit
open Go.Proofs.YtfhjncpakgailaaGreatDoor.Pl Go.Proofs.YtfhjncpakgailaaGreatDoor.Wt
set_option linter.unusedVariables false
set_option linter.unusedSimpArgs false
theorem own : ownKnob Tryz.prog.godebug = none := by kernel_rfl
theorem laidOut : laidOutB Tryz.prog = true := by kernel_rfl
set_option maxRecDepth 100000 in
set_option maxHeartbeats 3200000 in
theorem core (vx : Value) (rx : Rw) (w : World) (vt : Value) (zt : List Int) (hx : RawV w vx rx ∧ okR rx ∧ wfR rx) (hzt : Nums w vt zt) (hwt : ∀ n ∈ zt, (Lit.int .i64 n).wf = true) (htab : Tab w) :
  Calls Tryz.prog 5 #[vx, vt] w fun e w' => e = .returned (.bool true) ∧ Below w.heap.size w w' := by
 have HZt : Hid (Nums w vt zt) := hzt
 have HWt : Hid (∀ n ∈ zt, (Lit.int .i64 n).wf = true) := hwt
 obtain ⟨att, ctt, rfl, _⟩ := hzt.get
 clear hzt hwt
 have HTB : Hid (Tab w) := htab
 clear htab
 obtain ⟨hx, hokx, hwfx⟩ := hx
 have HIx : Hid (RawV w vx rx) := hx
 have HOKx : Hid (okR rx) := hokx
 have HWFx : Hid (wfR rx) := hwfx
 obtain ⟨vs0x, rfl, hNx⟩ := hx
 obtain ⟨a0x, c0x, rfl, hNxx⟩ := hNx.get
 clear hNx hNxx hokx hwfx
 rcases cerK_two rx 4 (by omega) (by omega) with hE | ⟨U, hU⟩
 ·have HFU : Hid (∀ v W, Tab W → RawV W v rx → okR rx → wfR rx → Calls Tryz.prog 9 #[v, .int .i64 4] W fun e w' => e = .returned (.bool true) ∧ Below W.heap.size W w') := fun v W hT h1 h2 h3 => full4_any v rx W h1 h2 h3 _ _ hE true rfl hT
  clear hE
  have HB0 : Hid (∀ o1, Below w.heap.size w (w.alloc o1)) := fun o1 => (Below.refl _ _).alloc (Nat.le_refl _) _
  go_enter Tryz.func5, Tryz.ntmps5
  go_wp2_with (first
   | (go_at_call 9; (with_reducible refine (HFU.out _ _ (HTB.out.later (HB0.out _)) (HIx.out.later (HB0.out _) (Nat.le_refl _)) HOKx.out HWFx.out).mono ?_); rintro e w1 ⟨rfl, hb⟩; obtain ⟨s1, bb0, hb1⟩ := boxed hb (by simp); have KX1 := hidP bb0; clear bb0; have HB1 := hidP hb1; have qX0 := KX1.out.cell 0 (v := .int .i64 rx.1) rfl; have qX1 := KX1.out.cell 1 (v := .slice a0x rx.2.length c0x) rfl; clear hb hb1))
  go_ret
  exact ⟨rfl, HB1.out⟩
 ·have HFU : Hid (∀ v W, Tab W → RawV W v rx → okR rx → wfR rx → Calls Tryz.prog 9 #[v, .int .i64 4] W fun e w' => e = .returned (.bool false) ∧ Below W.heap.size W w') := fun v W hT h1 h2 h3 => full4_any v rx W h1 h2 h3 _ _ hU.eq false rfl hT
  have HSM : Hid (∀ v W, Tab W → RawV W v rx → okR rx → wfR rx → Calls Tryz.prog 10 #[v, .int .i64 4] W fun e w' => ∃ v1 v2 Y, ∃ tt : Int, e = .returned (.tuple #[v1, v2, .int .i64 tt, .bool true]) ∧ (∃ p T vs, SmlU U Y tt p T vs) ∧ Mach w' v1 U ∧ Mach w' v2 Y ∧ Below W.heap.size W w') := fun v W hT h1 h2 h3 => small4_any v rx W h1 h2 h3 U hU.eq hU.right hU.cheap hU.crt hT
  have HLY : Hid (∀ Y tt, (∃ p T vs, SmlU U Y tt p T vs) → U.2.length + U.2.length ≤ 60 → arcN U.2 + arcN U.2 ≤ 400 → ∀ D, Dbl U D → ∀ W v, Tab W → Mach W v D → Calls Tryz.prog 15 #[v] W fun e w' => ∃ v', e = .returned (.tuple #[v', .int .i64 tt, .int .i64 0]) ∧ Mach w' v' Y ∧ Below W.heap.size W w') := fun Y tt ⟨p, T, vs, hS⟩ b1 b2 D hD W v hT h1 => (leastMk_any v D W h1 (right_ok (hD.right hU.right b1 b2)) hT).mono fun e w' ⟨v', z, t, ec, he, hq, hm, hb⟩ => by
   obtain ⟨rfl, rfl, rfl⟩ := hD.one hU.right hU.cheap hU.crt (by rw [hU.zero]; exact Int.le_refl _) b1 b2 hS hq
   exact ⟨v', he, hm, hb⟩
  have HCN : Hid (∀ W v, Mach W v U → Calls Tryz.prog 18 #[v] W fun e w' => e = .returned (.tuple #[.agg #[.int .i64 (U.2.length : Int), .int .i64 (arcN U.2 : Int), .int .i64 (finN U.2 : Int)], .int .i64 0]) ∧ Below W.heap.size W w') := fun W v h1 => count_any v U W h1 (right_ok hU.right) 0 _ _ _ hU.right (by rw [if_pos rfl]; exact ⟨rfl, rfl, rfl⟩)
  have HDB : Hid (∀ W v vt, Mach W v U → Nums W vt zt → Calls Tryz.prog 19 #[v, vt] W fun e w' => ∃ v D, e = .returned v ∧ Dbl U D ∧ Mach w' v D ∧ Below W.heap.size W w') := fun W v vt h1 h2 => doubled_any v vt U zt W h1 hU.right h2 HWt.out
  have HAL : Hid (∀ Y tt, (∃ p T vs, SmlU U Y tt p T vs) → ∀ W v1 v2, Mach W v1 Y → Mach W v2 Y → Calls Tryz.prog 17 #[v1, v2] W fun e w' => e = .returned (.bool true) ∧ Below W.heap.size W w') := fun Y tt ⟨p, T, vs, hS⟩ W v1 v2 h1 h2 => keepAlike_any v1 v2 _ W h1 h2 (right_ok hS.right)
  have t4 : ((U.2.length : Int) == 0) = false := by have := hU.pos; exact beq_eq_false_iff_ne.2 (by omega)
  obtain ⟨u60, u400⟩ := right_size hU.right
  have x1 : IntKind.i64.wrap (2 * (U.2.length : Int)) = 2 * (U.2.length : Int) := wrapI (by omega) (by omega)
  have x2 : IntKind.i64.wrap (2 * (arcN U.2 : Int)) = 2 * (arcN U.2 : Int) := wrapI (by omega) (by omega)
  obtain ⟨NA, hNA⟩ : ∃ NA, arcN U.2 = NA := ⟨_, rfl⟩
  obtain ⟨NF, hNF⟩ : ∃ NF, finN U.2 = NF := ⟨_, rfl⟩
  rw [hNA] at HLY HCN x2
  rw [hNF] at HCN
  clear hU hNA hNF u60 u400
  have HB0 : Hid (∀ o1, Below w.heap.size w (w.alloc o1)) := fun o1 => (Below.refl _ _).alloc (Nat.le_refl _) _
  go_enter Tryz.func5, Tryz.ntmps5
  by_cases hsm : U.2.length + U.2.length ≤ 60 ∧ NA + NA ≤ 400
  ·obtain ⟨b1, b2⟩ := hsm
   have y1 : ¬ 60 < 2 * (U.2.length : Int) := by omega
   have y2 : ¬ 400 < 2 * (NA : Int) := by omega
   go_wp2_with (first
    | (go_at_call 9; (with_reducible refine (HFU.out _ _ (HTB.out.later (HB0.out _)) (HIx.out.later (HB0.out _) (Nat.le_refl _)) HOKx.out HWFx.out).mono ?_); rintro e w1 ⟨rfl, hb⟩; obtain ⟨s1, bb0, hb1⟩ := boxed hb (by simp); have KX1 := hidP bb0; clear bb0; have HB1 := hidP hb1; have qX0 := KX1.out.cell 0 (v := .int .i64 rx.1) rfl; have qX1 := KX1.out.cell 1 (v := .slice a0x rx.2.length c0x) rfl; clear hb hb1)
    | (go_at_call 10; (with_reducible refine (HSM.out _ _ (HTB.out.later HB1.out) (HIx.out.later HB1.out (Nat.le_refl _)) HOKx.out HWFx.out).mono ?_); rintro e w2 ⟨v2, v2y, Y, tt, rfl, hq, hm, hmy, hb⟩; have HMu : Hid (Mach w2 v2 (U)) := hm; obtain ⟨vsu, rfl, hSu⟩ := hm; obtain ⟨au, cu, rfl⟩ := hSu.sl; clear hSu; have HMy : Hid (Mach w2 v2y Y) := hmy; obtain ⟨vsy, rfl, hSy⟩ := hmy; obtain ⟨ay, cy, rfl⟩ := hSy.sl; clear hSy; have HSU := hidP hq; clear hq; have hb2 := hb; have HB2 := hidP (HB1.out.trans (hb2.mono HB1.out.size)); have KX2 := hidP (KX1.out.below hb2 KX1.out.lt); have qX0 := ((KX2.out.alloc (.cells #[.int .i64 U.1, .slice au U.2.length cu] 29)).alloc (.cells #[.int .i64 Y.1, .slice ay Y.2.length cy] 29)).cell 0 (v := .int .i64 rx.1) rfl; have qX1 := ((KX2.out.alloc (.cells #[.int .i64 U.1, .slice au U.2.length cu] 29)).alloc (.cells #[.int .i64 Y.1, .slice ay Y.2.length cy] 29)).cell 1 (v := .slice a0x rx.2.length c0x) rfl; clear hb hb2)
    | (go_at_call 18; (with_reducible refine (HCN.out _ _ (HMu.out.later (((Below.refl _ _).alloc (Nat.le_refl _) _).alloc (by simp) _) (Nat.le_refl _))).mono ?_); rintro e w3 ⟨rfl, hb⟩; obtain ⟨s3, bb0, bb1, hb3⟩ := boxedTwo hb (by simp); have KVu3 := hidP bb0; have KVy3 := hidP bb1; clear bb0 bb1; have HB3 := hidP (HB2.out.trans (hb3.mono HB2.out.size)); have KX3 := hidP (KX2.out.below hb3 KX2.out.lt); have Hu3 := hidP hb3; have Hy3 := hidP hb3; have qX0 := (KX3.out.alloc (.cells #[.int .i64 (U.2.length : Int), .int .i64 (NA : Int), .int .i64 (NF : Int)] 48)).cell 0 (v := .int .i64 rx.1) rfl; have qX1 := (KX3.out.alloc (.cells #[.int .i64 (U.2.length : Int), .int .i64 (NA : Int), .int .i64 (NF : Int)] 48)).cell 1 (v := .slice a0x rx.2.length c0x) rfl; have qVu0 := (KVu3.out.alloc (.cells #[.int .i64 (U.2.length : Int), .int .i64 (NA : Int), .int .i64 (NF : Int)] 48)).cell 0 (v := .int .i64 U.1) rfl; have qVu1 := (KVu3.out.alloc (.cells #[.int .i64 (U.2.length : Int), .int .i64 (NA : Int), .int .i64 (NF : Int)] 48)).cell 1 (v := .slice au U.2.length cu) rfl; have qVy0 := (KVy3.out.alloc (.cells #[.int .i64 (U.2.length : Int), .int .i64 (NA : Int), .int .i64 (NF : Int)] 48)).cell 0 (v := .int .i64 Y.1) rfl; have qVy1 := (KVy3.out.alloc (.cells #[.int .i64 (U.2.length : Int), .int .i64 (NA : Int), .int .i64 (NF : Int)] 48)).cell 1 (v := .slice ay Y.2.length cy) rfl; clear hb hb3)
    | (go_at_call 19; (with_reducible refine (HDB.out _ _ _ (HMu.out.later (Hu3.out.alloc Hu3.out.size _) (Nat.le_refl _)) (HZt.out.later (HB3.out.alloc HB3.out.size _) (Nat.le_refl _))).mono ?_); rintro e w4 ⟨vd, D, rfl, hD, hm, hb⟩; have HMd : Hid (Mach w4 vd D) := hm; have HLD := hidP (HLY.out _ _ HSU.out b1 b2 D hD); clear hD hm; obtain ⟨s4, bb0, hb4⟩ := boxed hb (by simp); have KCn4 := hidP bb0; clear bb0; have HB4 := hidP (HB3.out.trans (hb4.mono HB3.out.size)); have KX4 := hidP (KX3.out.below hb4 KX3.out.lt); have KVu4 := hidP (KVu3.out.below hb4 KVu3.out.lt); have KVy4 := hidP (KVy3.out.below hb4 KVy3.out.lt); have Hu4 := hidP (Hu3.out.trans (hb4.mono Hu3.out.size)); have Hy4 := hidP (Hy3.out.trans (hb4.mono Hy3.out.size)); have qX0 := KX4.out.cell 0 (v := .int .i64 rx.1) rfl; have qX1 := KX4.out.cell 1 (v := .slice a0x rx.2.length c0x) rfl; have qVu0 := KVu4.out.cell 0 (v := .int .i64 U.1) rfl; have qVu1 := KVu4.out.cell 1 (v := .slice au U.2.length cu) rfl; have qVy0 := KVy4.out.cell 0 (v := .int .i64 Y.1) rfl; have qVy1 := KVy4.out.cell 1 (v := .slice ay Y.2.length cy) rfl; have qCn0 := KCn4.out.cell 0 (v := .int .i64 (U.2.length : Int)) rfl; have qCn1 := KCn4.out.cell 1 (v := .int .i64 (NA : Int)) rfl; have qCn2 := KCn4.out.cell 2 (v := .int .i64 (NF : Int)) rfl; clear hb hb4)
    | (go_at_call 15; (with_reducible refine (HLD.out _ _ (HTB.out.later HB4.out) (HMd.out.later (Below.refl _ _) (Nat.le_refl _))).mono ?_); rintro e w5 ⟨v5, rfl, hm, hb⟩; have HMz : Hid (Mach w5 v5 (Y)) := hm; obtain ⟨vsz, rfl, hSz⟩ := hm; obtain ⟨az, cz, rfl⟩ := hSz.sl; clear hSz; have hb5 := hb; have HB5 := hidP (HB4.out.trans (hb5.mono HB4.out.size)); have KX5 := hidP (KX4.out.below hb5 KX4.out.lt); have KVu5 := hidP (KVu4.out.below hb5 KVu4.out.lt); have KVy5 := hidP (KVy4.out.below hb5 KVy4.out.lt); have KCn5 := hidP (KCn4.out.below hb5 KCn4.out.lt); have Hu5 := hidP (Hu4.out.trans (hb5.mono Hu4.out.size)); have Hy5 := hidP (Hy4.out.trans (hb5.mono Hy4.out.size)); have Hd5 := hidP hb5; have qX0 := (KX5.out.alloc (.cells #[.int .i64 Y.1, .slice az Y.2.length cz] 29)).cell 0 (v := .int .i64 rx.1) rfl; have qX1 := (KX5.out.alloc (.cells #[.int .i64 Y.1, .slice az Y.2.length cz] 29)).cell 1 (v := .slice a0x rx.2.length c0x) rfl; have qVu0 := (KVu5.out.alloc (.cells #[.int .i64 Y.1, .slice az Y.2.length cz] 29)).cell 0 (v := .int .i64 U.1) rfl; have qVu1 := (KVu5.out.alloc (.cells #[.int .i64 Y.1, .slice az Y.2.length cz] 29)).cell 1 (v := .slice au U.2.length cu) rfl; have qVy0 := (KVy5.out.alloc (.cells #[.int .i64 Y.1, .slice az Y.2.length cz] 29)).cell 0 (v := .int .i64 Y.1) rfl; have qVy1 := (KVy5.out.alloc (.cells #[.int .i64 Y.1, .slice az Y.2.length cz] 29)).cell 1 (v := .slice ay Y.2.length cy) rfl; have qCn0 := (KCn5.out.alloc (.cells #[.int .i64 Y.1, .slice az Y.2.length cz] 29)).cell 0 (v := .int .i64 (U.2.length : Int)) rfl; have qCn1 := (KCn5.out.alloc (.cells #[.int .i64 Y.1, .slice az Y.2.length cz] 29)).cell 1 (v := .int .i64 (NA : Int)) rfl; have qCn2 := (KCn5.out.alloc (.cells #[.int .i64 Y.1, .slice az Y.2.length cz] 29)).cell 2 (v := .int .i64 (NF : Int)) rfl; clear hb hb5)
    | (go_at_call 17; (with_reducible refine (HAL.out _ _ HSU.out _ _ _ (HMy.out.later (Hy5.out.alloc Hy5.out.size _) (Nat.le_refl _)) (HMz.out.later ((Below.refl _ _).alloc (Nat.le_refl _) _) (Nat.le_refl _))).mono ?_); rintro e w6 ⟨rfl, hb⟩; obtain ⟨s6, bb0, hb6⟩ := boxed hb (by simp); have KVz6 := hidP bb0; clear bb0; have HB6 := hidP (HB5.out.trans (hb6.mono HB5.out.size)); have KX6 := hidP (KX5.out.below hb6 KX5.out.lt); have KVu6 := hidP (KVu5.out.below hb6 KVu5.out.lt); have KVy6 := hidP (KVy5.out.below hb6 KVy5.out.lt); have KCn6 := hidP (KCn5.out.below hb6 KCn5.out.lt); have Hu6 := hidP (Hu5.out.trans (hb6.mono Hu5.out.size)); have Hy6 := hidP (Hy5.out.trans (hb6.mono Hy5.out.size)); have Hd6 := hidP (Hd5.out.trans (hb6.mono Hd5.out.size)); have Hz6 := hidP hb6; have qX0 := KX6.out.cell 0 (v := .int .i64 rx.1) rfl; have qX1 := KX6.out.cell 1 (v := .slice a0x rx.2.length c0x) rfl; have qVu0 := KVu6.out.cell 0 (v := .int .i64 U.1) rfl; have qVu1 := KVu6.out.cell 1 (v := .slice au U.2.length cu) rfl; have qVy0 := KVy6.out.cell 0 (v := .int .i64 Y.1) rfl; have qVy1 := KVy6.out.cell 1 (v := .slice ay Y.2.length cy) rfl; have qCn0 := KCn6.out.cell 0 (v := .int .i64 (U.2.length : Int)) rfl; have qCn1 := KCn6.out.cell 1 (v := .int .i64 (NA : Int)) rfl; have qCn2 := KCn6.out.cell 2 (v := .int .i64 (NF : Int)) rfl; have qVz0 := KVz6.out.cell 0 (v := .int .i64 Y.1) rfl; have qVz1 := KVz6.out.cell 1 (v := .slice az Y.2.length cz) rfl; clear hb hb6))
   go_ret
   exact ⟨rfl, HB6.out⟩
  ·by_cases y1 : 60 < 2 * (U.2.length : Int)
   ·clear hsm
    go_wp2_with (first
     | (go_at_call 9; (with_reducible refine (HFU.out _ _ (HTB.out.later (HB0.out _)) (HIx.out.later (HB0.out _) (Nat.le_refl _)) HOKx.out HWFx.out).mono ?_); rintro e w1 ⟨rfl, hb⟩; obtain ⟨s1, bb0, hb1⟩ := boxed hb (by simp); have KX1 := hidP bb0; clear bb0; have HB1 := hidP hb1; have qX0 := KX1.out.cell 0 (v := .int .i64 rx.1) rfl; have qX1 := KX1.out.cell 1 (v := .slice a0x rx.2.length c0x) rfl; clear hb hb1)
     | (go_at_call 10; (with_reducible refine (HSM.out _ _ (HTB.out.later HB1.out) (HIx.out.later HB1.out (Nat.le_refl _)) HOKx.out HWFx.out).mono ?_); rintro e w2 ⟨v2, v2y, Y, tt, rfl, hq, hm, hmy, hb⟩; have HMu : Hid (Mach w2 v2 (U)) := hm; obtain ⟨vsu, rfl, hSu⟩ := hm; obtain ⟨au, cu, rfl⟩ := hSu.sl; clear hSu; have HMy : Hid (Mach w2 v2y Y) := hmy; obtain ⟨vsy, rfl, hSy⟩ := hmy; obtain ⟨ay, cy, rfl⟩ := hSy.sl; clear hSy; have HSU := hidP hq; clear hq; have hb2 := hb; have HB2 := hidP (HB1.out.trans (hb2.mono HB1.out.size)); have KX2 := hidP (KX1.out.below hb2 KX1.out.lt); have qX0 := ((KX2.out.alloc (.cells #[.int .i64 U.1, .slice au U.2.length cu] 29)).alloc (.cells #[.int .i64 Y.1, .slice ay Y.2.length cy] 29)).cell 0 (v := .int .i64 rx.1) rfl; have qX1 := ((KX2.out.alloc (.cells #[.int .i64 U.1, .slice au U.2.length cu] 29)).alloc (.cells #[.int .i64 Y.1, .slice ay Y.2.length cy] 29)).cell 1 (v := .slice a0x rx.2.length c0x) rfl; clear hb hb2)
     | (go_at_call 18; (with_reducible refine (HCN.out _ _ (HMu.out.later (((Below.refl _ _).alloc (Nat.le_refl _) _).alloc (by simp) _) (Nat.le_refl _))).mono ?_); rintro e w3 ⟨rfl, hb⟩; obtain ⟨s3, bb0, bb1, hb3⟩ := boxedTwo hb (by simp); have KVu3 := hidP bb0; have KVy3 := hidP bb1; clear bb0 bb1; have HB3 := hidP (HB2.out.trans (hb3.mono HB2.out.size)); have KX3 := hidP (KX2.out.below hb3 KX2.out.lt); have Hu3 := hidP hb3; have Hy3 := hidP hb3; have qX0 := (KX3.out.alloc (.cells #[.int .i64 (U.2.length : Int), .int .i64 (NA : Int), .int .i64 (NF : Int)] 48)).cell 0 (v := .int .i64 rx.1) rfl; have qX1 := (KX3.out.alloc (.cells #[.int .i64 (U.2.length : Int), .int .i64 (NA : Int), .int .i64 (NF : Int)] 48)).cell 1 (v := .slice a0x rx.2.length c0x) rfl; have qVu0 := (KVu3.out.alloc (.cells #[.int .i64 (U.2.length : Int), .int .i64 (NA : Int), .int .i64 (NF : Int)] 48)).cell 0 (v := .int .i64 U.1) rfl; have qVu1 := (KVu3.out.alloc (.cells #[.int .i64 (U.2.length : Int), .int .i64 (NA : Int), .int .i64 (NF : Int)] 48)).cell 1 (v := .slice au U.2.length cu) rfl; have qVy0 := (KVy3.out.alloc (.cells #[.int .i64 (U.2.length : Int), .int .i64 (NA : Int), .int .i64 (NF : Int)] 48)).cell 0 (v := .int .i64 Y.1) rfl; have qVy1 := (KVy3.out.alloc (.cells #[.int .i64 (U.2.length : Int), .int .i64 (NA : Int), .int .i64 (NF : Int)] 48)).cell 1 (v := .slice ay Y.2.length cy) rfl; clear hb hb3))
    go_ret
    exact ⟨rfl, HB3.out.alloc HB3.out.size _⟩
   ·have y2 : 400 < 2 * (NA : Int) := by omega
    clear hsm
    go_wp2_with (first
     | (go_at_call 9; (with_reducible refine (HFU.out _ _ (HTB.out.later (HB0.out _)) (HIx.out.later (HB0.out _) (Nat.le_refl _)) HOKx.out HWFx.out).mono ?_); rintro e w1 ⟨rfl, hb⟩; obtain ⟨s1, bb0, hb1⟩ := boxed hb (by simp); have KX1 := hidP bb0; clear bb0; have HB1 := hidP hb1; have qX0 := KX1.out.cell 0 (v := .int .i64 rx.1) rfl; have qX1 := KX1.out.cell 1 (v := .slice a0x rx.2.length c0x) rfl; clear hb hb1)
     | (go_at_call 10; (with_reducible refine (HSM.out _ _ (HTB.out.later HB1.out) (HIx.out.later HB1.out (Nat.le_refl _)) HOKx.out HWFx.out).mono ?_); rintro e w2 ⟨v2, v2y, Y, tt, rfl, hq, hm, hmy, hb⟩; have HMu : Hid (Mach w2 v2 (U)) := hm; obtain ⟨vsu, rfl, hSu⟩ := hm; obtain ⟨au, cu, rfl⟩ := hSu.sl; clear hSu; have HMy : Hid (Mach w2 v2y Y) := hmy; obtain ⟨vsy, rfl, hSy⟩ := hmy; obtain ⟨ay, cy, rfl⟩ := hSy.sl; clear hSy; have HSU := hidP hq; clear hq; have hb2 := hb; have HB2 := hidP (HB1.out.trans (hb2.mono HB1.out.size)); have KX2 := hidP (KX1.out.below hb2 KX1.out.lt); have qX0 := ((KX2.out.alloc (.cells #[.int .i64 U.1, .slice au U.2.length cu] 29)).alloc (.cells #[.int .i64 Y.1, .slice ay Y.2.length cy] 29)).cell 0 (v := .int .i64 rx.1) rfl; have qX1 := ((KX2.out.alloc (.cells #[.int .i64 U.1, .slice au U.2.length cu] 29)).alloc (.cells #[.int .i64 Y.1, .slice ay Y.2.length cy] 29)).cell 1 (v := .slice a0x rx.2.length c0x) rfl; clear hb hb2)
     | (go_at_call 18; (with_reducible refine (HCN.out _ _ (HMu.out.later (((Below.refl _ _).alloc (Nat.le_refl _) _).alloc (by simp) _) (Nat.le_refl _))).mono ?_); rintro e w3 ⟨rfl, hb⟩; obtain ⟨s3, bb0, bb1, hb3⟩ := boxedTwo hb (by simp); have KVu3 := hidP bb0; have KVy3 := hidP bb1; clear bb0 bb1; have HB3 := hidP (HB2.out.trans (hb3.mono HB2.out.size)); have KX3 := hidP (KX2.out.below hb3 KX2.out.lt); have Hu3 := hidP hb3; have Hy3 := hidP hb3; have qX0 := (KX3.out.alloc (.cells #[.int .i64 (U.2.length : Int), .int .i64 (NA : Int), .int .i64 (NF : Int)] 48)).cell 0 (v := .int .i64 rx.1) rfl; have qX1 := (KX3.out.alloc (.cells #[.int .i64 (U.2.length : Int), .int .i64 (NA : Int), .int .i64 (NF : Int)] 48)).cell 1 (v := .slice a0x rx.2.length c0x) rfl; have qVu0 := (KVu3.out.alloc (.cells #[.int .i64 (U.2.length : Int), .int .i64 (NA : Int), .int .i64 (NF : Int)] 48)).cell 0 (v := .int .i64 U.1) rfl; have qVu1 := (KVu3.out.alloc (.cells #[.int .i64 (U.2.length : Int), .int .i64 (NA : Int), .int .i64 (NF : Int)] 48)).cell 1 (v := .slice au U.2.length cu) rfl; have qVy0 := (KVy3.out.alloc (.cells #[.int .i64 (U.2.length : Int), .int .i64 (NA : Int), .int .i64 (NF : Int)] 48)).cell 0 (v := .int .i64 Y.1) rfl; have qVy1 := (KVy3.out.alloc (.cells #[.int .i64 (U.2.length : Int), .int .i64 (NA : Int), .int .i64 (NF : Int)] 48)).cell 1 (v := .slice ay Y.2.length cy) rfl; clear hb hb3))
    go_ret
    exact ⟨rfl, HB3.out.alloc HB3.out.size _⟩
theorem walk (vx : Value) (rx : Rw) (a1 : Option Addr) (len1 cap1 : Nat) (z1 : List Int) (w : World) (hx : RawV w vx rx ∧ okR rx ∧ wfR rx) (w1 : IsRow .i64 w a1 len1 cap1 z1 ∧ cap1 * 8 ≤ 140737488351232) (htab : Tab w) :
  Calls Tryz.prog 5 #[vx, .slice a1 len1 cap1] w fun e w' => e = .returned (.bool true) ∧ Below w.heap.size w w' := by
 obtain ⟨p1, _, _⟩ := row_nums w1.1
 exact core vx rx w _ _ hx p1 (row_wf w1.1) htab
theorem gTab : Tryz.prog.globalNamed "internal/strconv.uint64pow10" = some 0 := by kernel_rfl
theorem gTabType : (Tryz.prog.globals[0]?).map (·.type) = some 254 := by kernel_rfl
theorem cellsT : Tryz.prog.cellsOf 254 = 20 := by kernel_rfl
theorem cellsE : Tryz.prog.cellsOf 192 = 1 := by kernel_rfl
theorem tabEq : (Rows.laid_internal_strconv_uint64pow10 : DataW Unit) = Lib.tabData .u64 Lib.pow10Tab := by kernel_rfl
theorem tabOf {W : World} (h : laidMetH Tryz.prog Rows.leastOneRow.laid W) : Tab W := by
 have h1 : laidMet Tryz.prog [("math/bits.deBruijn32tab", Rows.laid_math_bits_deBruijn32tab), ("math/bits.deBruijn64tab", Rows.laid_math_bits_deBruijn64tab), ("internal/strconv.uint64pow10", Rows.laid_internal_strconv_uint64pow10)] W := h
 have h2 : laidMet Tryz.prog [("internal/strconv.uint64pow10", Rows.laid_internal_strconv_uint64pow10)] W := h1.tail.tail
 rw [tabEq] at h2
 exact Lib.tabIs_of_head gTab gTabType Tryz.underlying254 Tryz.underlying192 cellsE cellsT h2
set_option maxRecDepth 100000 in
theorem contract (H : Type) (enc : TypeId × Value → H) (W : World) (base : Nat) (args : Array Value) (ds gs : List (DataW H)) (before : List MemPlace)
  (hval : ∀ (j : Nat) t v, Tryz.f5.params[j]? = some t → args[j]? = some v → Value.okWide Tryz.prog W .any base t v)
  (hW : DataW.Whole enc Tryz.prog Tryz.f5.params.toList Rows.leastOneSpec.vars false W args.toList ds gs before)
  (hsz : (DataW.weightsEach Tryz.prog (Tryz.f5.params.toList ++ (OpenSpec.ofChange Rows.leastOneSpec).bare.plain.varTypes Tryz.prog) (ds ++ gs)).all (· ≤ reachBytes) = true)
  (hL : laidMetH Tryz.prog Rows.leastOneRow.laid W) :
  Calls Tryz.prog 5 args W fun e W' => ∃ v, e = .returned v ∧ Rows.leastOneSpec.post enc Tryz.prog Tryz.f5 false true false false W args v W' := by
 have hW' := hW
 obtain ⟨p, q, hA0, hV, rfl, hfz, hnd⟩ := hW
 have hA : DataW.TrodAll enc Tryz.prog W 0 (fun _ => true) true Tryz.f5.params.toList args.toList ds p := hA0
 rw [Tryz.params5] at hA hval hsz
 obtain ⟨v0, vs0, d0, ds0, p0, q0, hargs, rfl, rfl, h0, r0⟩ := trodAll_cons hA
 obtain ⟨v1, vs1, d1, ds1, p1, q1, rfl, rfl, rfl, h1, r1⟩ := trodAll_cons r0
 obtain ⟨rfl, rfl, rfl⟩ := trodAll_nil r1
 obtain rfl : args = #[v0, v1] := by cases args; simp_all
 obtain ⟨rfl, rfl⟩ := trodVars_none hV
 have k0 := h0
 have lt0 : ∀ x ∈ p0, x.block < W.heap.size := by obtain ⟨m, hm⟩ := k0; exact DataW.trod_lt m _ _ _ hm
 obtain ⟨z0, w0⟩ : ∃ m : Rw, RawV W v0 m ∧ okR m ∧ wfR m := by
  obtain ⟨c0, c1, y0, y1, n, rfl, hd, hp, t0, t1⟩ := Go.Joins.open_agg2 Tryz.underlying24 (by kernel_rfl) (by kernel_rfl) (hval 0 24 v0 rfl rfl) h0
  subst hd
  exact open_raw t0 t1 ((Fits.arg hsz (j := 0) rfl rfl).field Tryz.underlying24 (f := 1) rfl rfl)
 obtain ⟨a1, len1, cap1, rfl⟩ := okWide_slice Tryz.underlying25 (hval 1 25 v1 rfl rfl)
 have k1 := h1
 have lt1 : ∀ x ∈ p1, x.block < W.heap.size := by obtain ⟨m, hm⟩ := k1; exact DataW.trod_lt m _ _ _ hm
 obtain ⟨z1, w1⟩ : ∃ zs, IsRow .i64 W a1 len1 cap1 zs ∧ cap1 * 8 ≤ 140737488351232 := by
  obtain ⟨fuel, hf⟩ := h1
  rcases open_ints Tryz.underlying25 Tryz.underlying3 (by kernel_rfl) hf with ⟨hcs, _⟩ | ⟨x, l, c, zs, hcs, _, hl, hm, hz, hx, hcell, hwz⟩
  ·simp [Value.cells] at hcs
   obtain ⟨rfl, rfl, rfl⟩ := hcs
   exact ⟨[], .inl ⟨rfl, rfl, rfl, rfl⟩, by omega⟩
  ·have hd := congrArg Prod.fst hx
   have hsw := sized_slice hsz (j := 1) (t := 25) (e := 3) rfl (congrArg some hd) Tryz.underlying25
   have hby : Tryz.prog.bytesOf 3 = 8 := by kernel_rfl
   rw [hby] at hsw
   simp [Value.cells] at hcs
   obtain ⟨rfl, rfl, rfl⟩ := hcs
   have hz' : zs.length = cap1 := by simpa using hz
   simp only [lits, List.length_map, List.length_take, List.length_drop, reachBytes] at hsw
   exact ⟨zs, .inr ⟨_, rfl, hl, hm, hz', hcell, hwz⟩, by omega⟩
 refine (walk v0 z0 a1 len1 cap1 z1 W w0 w1 (tabOf hL)).mono fun e W' ⟨he, bel⟩ => ?_
 subst he
 exact ⟨_, rfl, _, _, _, [], _, [], hW', trodAll_mk1 (shut_bool Tryz.underlying4 _), (trodAll_cons_mk (Below.trod laidOut (by kernel_rfl) (of_decide_eq_true (by kernel_rfl)) k0 bel lt0) (trodAll_cons_mk (Below.trod laidOut (by kernel_rfl) (of_decide_eq_true (by kernel_rfl)) k1 bel lt1) trodAll_mk0)), rfl, bel.frame _, fun h => by cases h⟩
def cells_laid_math_bits_deBruijn32tab : Array Value := #[.int .u8 0, .int .u8 1, .int .u8 28, .int .u8 2, .int .u8 29, .int .u8 14, .int .u8 24, .int .u8 3, .int .u8 30, .int .u8 22, .int .u8 20, .int .u8 15, .int .u8 25, .int .u8 17, .int .u8 4, .int .u8 8, .int .u8 31, .int .u8 27, .int .u8 13, .int .u8 23, .int .u8 21, .int .u8 19, .int .u8 16, .int .u8 7, .int .u8 26, .int .u8 12, .int .u8 18, .int .u8 6, .int .u8 11, .int .u8 5, .int .u8 10, .int .u8 9]
def cells_laid_math_bits_deBruijn64tab : Array Value := #[.int .u8 0, .int .u8 1, .int .u8 56, .int .u8 2, .int .u8 57, .int .u8 49, .int .u8 28, .int .u8 3, .int .u8 61, .int .u8 58, .int .u8 42, .int .u8 50, .int .u8 38, .int .u8 29, .int .u8 17, .int .u8 4, .int .u8 62, .int .u8 47, .int .u8 59, .int .u8 36, .int .u8 45, .int .u8 43, .int .u8 51, .int .u8 22, .int .u8 53, .int .u8 39, .int .u8 33, .int .u8 30, .int .u8 24, .int .u8 18, .int .u8 12, .int .u8 5, .int .u8 63, .int .u8 55, .int .u8 48, .int .u8 27, .int .u8 60, .int .u8 41, .int .u8 37, .int .u8 16, .int .u8 46, .int .u8 35, .int .u8 44, .int .u8 21, .int .u8 52, .int .u8 32, .int .u8 23, .int .u8 11, .int .u8 54, .int .u8 26, .int .u8 40, .int .u8 15, .int .u8 34, .int .u8 20, .int .u8 31, .int .u8 10, .int .u8 25, .int .u8 14, .int .u8 19, .int .u8 9, .int .u8 13, .int .u8 8, .int .u8 7, .int .u8 6]
def cells_laid_internal_strconv_uint64pow10 : Array Value := #[.int .u64 1, .int .u64 10, .int .u64 100, .int .u64 1000, .int .u64 10000, .int .u64 100000, .int .u64 1000000, .int .u64 10000000, .int .u64 100000000, .int .u64 1000000000, .int .u64 10000000000, .int .u64 100000000000, .int .u64 1000000000000, .int .u64 10000000000000, .int .u64 100000000000000, .int .u64 1000000000000000, .int .u64 10000000000000000, .int .u64 100000000000000000, .int .u64 1000000000000000000, .int .u64 10000000000000000000]
def layOne (c : Array Value) : Obj → Obj
 | .cells _ t frozen => .cells c t frozen
 | o => o
theorem laid_met (os : Os) : laidMet Tryz.prog Rows.leastOneRow.laid (World.forCall ({ World.holding Tryz.prog os ⟨#[], #[], []⟩ with heap := ((((World.holding Tryz.prog os ⟨#[], #[], []⟩).heap.modify 1 (layOne cells_laid_math_bits_deBruijn32tab)).modify 2 (layOne cells_laid_math_bits_deBruijn64tab)).modify 0 (layOne cells_laid_internal_strconv_uint64pow10)) }) (fun _ _ => 0) ⟨#[], #[.agg #[.int .i64 0, .slice none 0 0], .slice none 0 0], []⟩).memory :=
 laidMet_of_run' 8 (by kernel_rfl) (by kernel_rfl)
theorem reads (os : Os) {H : Type} (enc : TypeId × Value → H) : ∃ places, DataW.whole enc Tryz.prog (World.forCall ({ World.holding Tryz.prog os ⟨#[], #[], []⟩ with heap := ((((World.holding Tryz.prog os ⟨#[], #[], []⟩).heap.modify 1 (layOne cells_laid_math_bits_deBruijn32tab)).modify 2 (layOne cells_laid_math_bits_deBruijn64tab)).modify 0 (layOne cells_laid_internal_strconv_uint64pow10)) }) (fun _ _ => 0) ⟨#[], #[.agg #[.int .i64 0, .slice none 0 0], .slice none 0 0], []⟩).memory Tryz.f5.params.toList Rows.leastOneSpec.vars false (#[.agg #[.int .i64 0, .slice none 0 0], .slice none 0 0] : Array Value).toList 8 = some ([.agg [.lit (.int .i64 0), .nil], .nil], [], places) :=
 ⟨[], by kernel_rfl⟩
set_option maxRecDepth 100000 in
theorem lifted (os : Os) (started : os.Started) (H : Type) (enc : TypeId × Value → H) (F : Stop.Interp) :
  ReturnsInHanded {} Tryz.checked os 5 .any ((OpenSpec.ofChange Rows.leastOneSpec).preRow enc Tryz.prog Tryz.f5 Rows.leastOneRow.domain false Rows.leastOneRow.laid) (((OpenSpec.ofChange Rows.leastOneSpec).at F).post enc Tryz.prog Tryz.f5 false true false false) := by
 obtain ⟨places, hx⟩ := reads os enc
 refine returnsInHanded_of_row (C := Tryz.checked) (s := OpenSpec.ofChange Rows.leastOneSpec) own started (by kernel_rfl) Tryz.func5
  (witness_row_at (enc := enc) (C := Tryz.checked) false ({ World.holding Tryz.prog os ⟨#[], #[], []⟩ with heap := ((((World.holding Tryz.prog os ⟨#[], #[], []⟩).heap.modify 1 (layOne cells_laid_math_bits_deBruijn32tab)).modify 2 (layOne cells_laid_math_bits_deBruijn64tab)).modify 0 (layOne cells_laid_internal_strconv_uint64pow10)) }) #[.agg #[.int .i64 0, .slice none 0 0], .slice none 0 0] rfl (by kernel_rfl) (by kernel_rfl) (by kernel_rfl)
   (OpenSpec.preRow_of_cond 8 hx (by kernel_rfl) (fun k hk => by cases hk) (by kernel_rfl) (laid_met os))) ?_
 intro W base args ds gs before hval hW _ _ hsz hL _ _
 exact contract H enc W base args ds gs before hval hW hsz hL
theorem said : Rows.LeastOneSaid :=
 OpenClaim.holds_of_cond 5 Tryz.f5 rfl rfl rfl rfl rfl rfl rfl ⟨rfl, rfl, rfl, rfl, rfl⟩ rfl rfl rfl rfl rfl (by kernel_rfl) Tryz.func5 (by kernel_rfl)
  (of_decide_eq_true (by kernel_rfl)) (by unfold Func.isWrapper; first | (rw [if_pos (by decide +kernel)]; kernel_rfl) | (rw [if_neg (by decide +kernel)]; exact ⟨rfl, rfl⟩))
  (fun os started H enc _ F => by rw [OpenClaim.pre_eq_preRow]; exact lifted os started H enc F)
theorem plain (f : FuncId) (fn : Func) (hf : Tryz.pinned.checked.prog.funcNamed "tropica/tropicakeep.LeastOne" = some f) (hfn : Tryz.pinned.checked.prog.funcs[f]? = some fn) :
  true = Tryz.pinned.checked.prog.looks [] ∧ ∀ (j : Nat) t, fn.params[j]? = some t → Tryz.pinned.checked.prog.wantsStandIn t = false := by
 obtain rfl : f = 5 := Option.some.inj ((show Tryz.prog.funcNamed "tropica/tropicakeep.LeastOne" = some 5 by kernel_rfl).symm.trans hf) |>.symm
 obtain rfl : fn = Tryz.f5 := (Option.some.inj (Tryz.func5.symm.trans hfn)).symm
 refine ⟨by kernel_rfl, fun j t ht => ?_⟩
 rw [Tryz.params5] at ht
 have h9 : t = 24 ∨ t = 25 := by simpa using Array.mem_of_getElem? ht
 rcases h9 with rfl | rfl
 ·exact (show Tryz.prog.wantsStandIn 24 = false by kernel_rfl)
 ·exact (show Tryz.prog.wantsStandIn 25 = false by kernel_rfl)
end Go.Proofs.YtfhjncpakgailaaGreatDoor.leastOne
namespace Go.Proofs.YtfhjncpakgailaaGreatDoor
theorem leastOne_card : Rows.LeastOneCardSaid :=
 Claim7.holds_tied_plain_at .later [] _ _ _ _ leastOne.said (fun _ h => by cases h) (by kernel_rfl) (fun _ h => by cases h) leastOne_row_tie rfl ⟨rfl, rfl⟩ (by kernel_rfl) rfl leastOne.plain (by kernel_rfl)
#print axioms leastOne_card
end Go.Proofs.YtfhjncpakgailaaGreatDoor
