/- The statement LeastAgain: whatever numbers a machine is made of, made small again it stays as it is, or it is too large to be made certain, for every input and without any condition (where the table of powers of ten that the standard library reads is as its text lays it: that is the card's tie). -/
import Derived.Test.YtfhjncpakgailaaGreatDoorCards
import Derived.Test.YtfhjncpakgailaaGreatDoorTie
import Derived.Test.YtfhjncpakgailaaGreatDoorKac
import Derived.Test.YtfhjncpakgailaaGreatDoorKah
import Derived.Test.YtfhjncpakgailaaGreatDoorKaQ
import Derived.Test.YtfhjncpakgailaaGreatDoorKaR
import Derived.Test.YtfhjncpakgailaaGreatDoorKag
import Derived.Lib.SmallJoins
import Derived.ChangeOld
import Derived.Below
import Derived.Deep.DeepHandedRow
import Derived.Stop.LaidErr
namespace Go.Proofs.YtfhjncpakgailaaGreatDoor.leastAgain
open Go.ChangeShapes Go.WideShapes Go.ChangeAt Go.RowKit
open Go.Proofs.YtfhjncpakgailaaGreatDoor.Pl Go.Proofs.YtfhjncpakgailaaGreatDoor.Wt
set_option linter.unusedVariables false
set_option linter.unusedSimpArgs false
theorem own : ownKnob Tryz.prog.godebug = none := by kernel_rfl
theorem laidOut : laidOutB Tryz.prog = true := by kernel_rfl
set_option maxRecDepth 100000 in
set_option maxHeartbeats 3200000 in
theorem core (vx : Value) (rx : Rw) (w : World) (hx : RawV w vx rx ∧ okR rx ∧ wfR rx) (htab : Tab w) :
  Calls Tryz.prog 4 #[vx] w fun e w' => e = .returned (.bool true) ∧ Below w.heap.size w w' := by
 have HTB : Hid (Tab w) := htab
 clear htab
 obtain ⟨hx, hokx, hwfx⟩ := hx
 have HIx : Hid (RawV w vx rx) := hx
 have HOKx : Hid (okR rx) := hokx
 have HWFx : Hid (wfR rx) := hwfx
 obtain ⟨vs0x, rfl, hNx⟩ := hx
 obtain ⟨a0x, c0x, rfl, hNxx⟩ := hNx.get
 clear hNx hNxx hokx hwfx
 rcases cerK_two rx 5 (by omega) (by omega) with hE | ⟨U, hU⟩
 ·have HFU : Hid (∀ v W, Tab W → RawV W v rx → okR rx → wfR rx → Calls Tryz.prog 9 #[v, .int .i64 5] W fun e w' => e = .returned (.bool true) ∧ Below W.heap.size W w') := fun v W hT h1 h2 h3 => full5_any v rx W h1 h2 h3 _ _ hE true rfl hT
  clear hE
  have HB0 : Hid (∀ o1, Below w.heap.size w (w.alloc o1)) := fun o1 => (Below.refl _ _).alloc (Nat.le_refl _) _
  go_enter Tryz.func4, Tryz.ntmps4
  go_wp2_with (first
   | (go_at_call 9; (with_reducible refine (HFU.out _ _ (HTB.out.later (HB0.out _)) (HIx.out.later (HB0.out _) (Nat.le_refl _)) HOKx.out HWFx.out).mono ?_); rintro e w1 ⟨rfl, hb⟩; obtain ⟨s1, bb0, hb1⟩ := boxed hb (by simp); have KX1 := hidP bb0; clear bb0; have HB1 := hidP hb1; have qX0 := KX1.out.cell 0 (v := .int .i64 rx.1) rfl; have qX1 := KX1.out.cell 1 (v := .slice a0x rx.2.length c0x) rfl; clear hb hb1))
  go_ret
  exact ⟨rfl, HB1.out⟩
 ·have HFU : Hid (∀ v W, Tab W → RawV W v rx → okR rx → wfR rx → Calls Tryz.prog 9 #[v, .int .i64 5] W fun e w' => e = .returned (.bool false) ∧ Below W.heap.size W w') := fun v W hT h1 h2 h3 => full5_any v rx W h1 h2 h3 _ _ hU.eq false rfl hT
  have HSM : Hid (∀ v W, Tab W → RawV W v rx → okR rx → wfR rx → Calls Tryz.prog 10 #[v, .int .i64 5] W fun e w' => ∃ v1 v2 Y, ∃ tt : Int, e = .returned (.tuple #[v1, v2, .int .i64 tt, .bool true]) ∧ (∃ p T vs, SmlU U Y tt p T vs) ∧ Mach w' v1 U ∧ Mach w' v2 Y ∧ Below W.heap.size W w') := fun v W hT h1 h2 h3 => small5_any v rx W h1 h2 h3 U hU.eq hU.right hU.cheap hU.crt hT
  have HLY : Hid (∀ Y tt, (∃ p T vs, SmlU U Y tt p T vs) → ∀ W v, Tab W → Mach W v Y → Calls Tryz.prog 15 #[v] W fun e w' => ∃ v', ∃ z : Mc, e = .returned (.tuple #[v', .int .i64 0, .int .i64 0]) ∧ (0 ≤ Y.1 → z = Y) ∧ Mach w' v' z ∧ Below W.heap.size W w') := fun Y tt ⟨p, T, vs, hS⟩ W v hT h1 => (leastMk_any v Y W h1 (right_ok hS.right) hT).mono fun e w' ⟨v', z, t, ec, he, hq, hm, hb⟩ => by
   obtain ⟨rfl, rfl, hz⟩ := hS.again hq
   exact ⟨v', z, he, hz, hm, hb⟩
  have HDL : Hid (∀ W v, Mach W v U → Calls Tryz.prog 16 #[v] W fun e w' => ∃ x : Int, e = .returned (.tuple #[.int .i64 x, .int .i64 0]) ∧ CstIs (EndC U.2 U.1.toNat) x ∧ Below W.heap.size W w') := fun W v h1 => least_cst v U W h1 hU.right hU.cheap (by rw [hU.zero]; exact Int.le_refl _)
  have HCH : Hid (∀ Y tt, (∃ p T vs, SmlU U Y tt p T vs) → ∀ n, CstIs (EndC U.2 U.1.toNat) n → (n = 1000000001 ∧ Y.2.length = 0 ∧ tt = 0) ∨ (n ≠ 1000000001 ∧ tt = n ∧ 0 ≤ Y.1)) := fun Y tt ⟨p, T, vs, hS⟩ n hn => hS.cheapest2 (by rw [hU.zero]; exact Int.le_refl _) hn
  have HAL : Hid (∀ Y tt, (∃ p T vs, SmlU U Y tt p T vs) → ∀ W v1 v2, Mach W v1 Y → Mach W v2 Y → Calls Tryz.prog 17 #[v1, v2] W fun e w' => e = .returned (.bool true) ∧ Below W.heap.size W w') := fun Y tt ⟨p, T, vs, hS⟩ W v1 v2 h1 h2 => keepAlike_any v1 v2 _ W h1 h2 (right_ok hS.right)
  have t4 : ((U.2.length : Int) == 0) = false := by have := hU.pos; exact beq_eq_false_iff_ne.2 (by omega)
  clear hU
  have HB0 : Hid (∀ o1, Below w.heap.size w (w.alloc o1)) := fun o1 => (Below.refl _ _).alloc (Nat.le_refl _) _
  go_enter Tryz.func4, Tryz.ntmps4
  go_upto_region 8 with (first
   | (go_at_call 9; (with_reducible refine (HFU.out _ _ (HTB.out.later (HB0.out _)) (HIx.out.later (HB0.out _) (Nat.le_refl _)) HOKx.out HWFx.out).mono ?_); rintro e w1 ⟨rfl, hb⟩; obtain ⟨s1, bb0, hb1⟩ := boxed hb (by simp); have KX1 := hidP bb0; clear bb0; have HB1 := hidP hb1; have qX0 := KX1.out.cell 0 (v := .int .i64 rx.1) rfl; have qX1 := KX1.out.cell 1 (v := .slice a0x rx.2.length c0x) rfl; clear hb hb1)
   | (go_at_call 10; (with_reducible refine (HSM.out _ _ (HTB.out.later HB1.out) (HIx.out.later HB1.out (Nat.le_refl _)) HOKx.out HWFx.out).mono ?_); rintro e w2 ⟨v2, v2y, Y, tt, rfl, hq, hm, hmy, hb⟩; have HMu : Hid (Mach w2 v2 (U)) := hm; obtain ⟨vsu, rfl, hSu⟩ := hm; obtain ⟨au, cu, rfl⟩ := hSu.sl; clear hSu; have HMy : Hid (Mach w2 v2y Y) := hmy; obtain ⟨vsy, rfl, hSy⟩ := hmy; obtain ⟨ay, cy, rfl⟩ := hSy.sl; clear hSy; have HSU := hidP hq; clear hq; have hb2 := hb; have HB2 := hidP (HB1.out.trans (hb2.mono HB1.out.size)); have KX2 := hidP (KX1.out.below hb2 KX1.out.lt); have qX0 := ((KX2.out.alloc (.cells #[.int .i64 U.1, .slice au U.2.length cu] 29)).alloc (.cells #[.int .i64 Y.1, .slice ay Y.2.length cy] 29)).cell 0 (v := .int .i64 rx.1) rfl; have qX1 := ((KX2.out.alloc (.cells #[.int .i64 U.1, .slice au U.2.length cu] 29)).alloc (.cells #[.int .i64 Y.1, .slice ay Y.2.length cy] 29)).cell 1 (v := .slice a0x rx.2.length c0x) rfl; have HSY := hidP (HLY.out _ _ HSU.out); clear hb hb2)
   | (go_at_call 15; (with_reducible refine (HSY.out _ _ (HTB.out.later ((HB2.out.alloc HB2.out.size _).alloc (HB2.out.alloc HB2.out.size _).size _)) (HMy.out.later (((Below.refl _ _).alloc (Nat.le_refl _) _).alloc (by simp) _) (Nat.le_refl _))).mono ?_); rintro e w3 ⟨v3, Z, rfl, hz, hm, hb⟩; have HMz : Hid (Mach w3 v3 (Z)) := hm; obtain ⟨vsz, rfl, hSz⟩ := hm; obtain ⟨az, cz, rfl⟩ := hSz.sl; clear hSz; have HZ := hidP hz; clear hz; obtain ⟨s3, bb0, bb1, hb3⟩ := boxedTwo hb (by simp); have KVu3 := hidP bb0; have KVy3 := hidP bb1; clear bb0 bb1; have HB3 := hidP (HB2.out.trans (hb3.mono HB2.out.size)); have KX3 := hidP (KX2.out.below hb3 KX2.out.lt); have Hu3 := hidP hb3; have Hy3 := hidP hb3; have qX0 := (KX3.out.alloc (.cells #[.int .i64 Z.1, .slice az Z.2.length cz] 29)).cell 0 (v := .int .i64 rx.1) rfl; have qX1 := (KX3.out.alloc (.cells #[.int .i64 Z.1, .slice az Z.2.length cz] 29)).cell 1 (v := .slice a0x rx.2.length c0x) rfl; have qVu0 := (KVu3.out.alloc (.cells #[.int .i64 Z.1, .slice az Z.2.length cz] 29)).cell 0 (v := .int .i64 U.1) rfl; have qVu1 := (KVu3.out.alloc (.cells #[.int .i64 Z.1, .slice az Z.2.length cz] 29)).cell 1 (v := .slice au U.2.length cu) rfl; have qVy0 := (KVy3.out.alloc (.cells #[.int .i64 Z.1, .slice az Z.2.length cz] 29)).cell 0 (v := .int .i64 Y.1) rfl; have qVy1 := (KVy3.out.alloc (.cells #[.int .i64 Z.1, .slice az Z.2.length cz] 29)).cell 1 (v := .slice ay Y.2.length cy) rfl; clear hb hb3)
   | (go_at_call 16; (with_reducible refine (HDL.out _ _ (HMu.out.later (Hu3.out.alloc Hu3.out.size _) (Nat.le_refl _))).mono ?_); rintro e w4 ⟨nx, rfl, hq, hb⟩; obtain ⟨s4, bb0, hb4⟩ := boxed hb (by simp); have KVz4 := hidP bb0; clear bb0; have HB4 := hidP (HB3.out.trans (hb4.mono HB3.out.size)); have KX4 := hidP (KX3.out.below hb4 KX3.out.lt); have KVu4 := hidP (KVu3.out.below hb4 KVu3.out.lt); have KVy4 := hidP (KVy3.out.below hb4 KVy3.out.lt); have Hu4 := hidP (Hu3.out.trans (hb4.mono Hu3.out.size)); have Hy4 := hidP (Hy3.out.trans (hb4.mono Hy3.out.size)); have Hz4 := hidP hb4; have qX0 := KX4.out.cell 0 (v := .int .i64 rx.1) rfl; have qX1 := KX4.out.cell 1 (v := .slice a0x rx.2.length c0x) rfl; have qVu0 := KVu4.out.cell 0 (v := .int .i64 U.1) rfl; have qVu1 := KVu4.out.cell 1 (v := .slice au U.2.length cu) rfl; have qVy0 := KVy4.out.cell 0 (v := .int .i64 Y.1) rfl; have qVy1 := KVy4.out.cell 1 (v := .slice ay Y.2.length cy) rfl; have qVz0 := KVz4.out.cell 0 (v := .int .i64 Z.1) rfl; have qVz1 := KVz4.out.cell 1 (v := .slice az Z.2.length cz) rfl; have HQ := hidP (HCH.out _ _ HSU.out _ hq); clear hq; clear hb hb4))
  rcases HQ.out with ⟨g1, g2, g3⟩ | ⟨g1, g2, g3⟩
  ·have g4 : (nx == 1000000001) = true := by simpa using g1
   have g5 : ((Y.2.length : Int) == 0) = true := by rw [g2]; rfl
   have g6 : (tt == 0) = true := by simpa using g3
   clear g1 g2 g3
   go_wp2
   go_ret
   exact ⟨rfl, HB4.out⟩
  ·have g4 : (nx == 1000000001) = false := by simpa using g1
   have g5 : (tt == nx) = true := by simpa using g2
   obtain rfl : Y = Z := (HZ.out g3).symm
   clear g1 g2 g3
   go_wp2_with (first
    | (go_at_call 17; (with_reducible refine (HAL.out _ _ HSU.out _ _ _ (HMy.out.later Hy4.out (Nat.le_refl _)) (HMz.out.later Hz4.out (Nat.le_refl _))).mono ?_); rintro e w5 ⟨rfl, hb⟩; have hb5 := hb; have HB5 := hidP (HB4.out.trans (hb5.mono HB4.out.size)); have KX5 := hidP (KX4.out.below hb5 KX4.out.lt); have KVu5 := hidP (KVu4.out.below hb5 KVu4.out.lt); have KVy5 := hidP (KVy4.out.below hb5 KVy4.out.lt); have KVz5 := hidP (KVz4.out.below hb5 KVz4.out.lt); have Hu5 := hidP (Hu4.out.trans (hb5.mono Hu4.out.size)); have Hy5 := hidP (Hy4.out.trans (hb5.mono Hy4.out.size)); have Hz5 := hidP (Hz4.out.trans (hb5.mono Hz4.out.size)); have qX0 := KX5.out.cell 0 (v := .int .i64 rx.1) rfl; have qX1 := KX5.out.cell 1 (v := .slice a0x rx.2.length c0x) rfl; have qVu0 := KVu5.out.cell 0 (v := .int .i64 U.1) rfl; have qVu1 := KVu5.out.cell 1 (v := .slice au U.2.length cu) rfl; have qVy0 := KVy5.out.cell 0 (v := .int .i64 Y.1) rfl; have qVy1 := KVy5.out.cell 1 (v := .slice ay Y.2.length cy) rfl; have qVz0 := KVz5.out.cell 0 (v := .int .i64 Y.1) rfl; have qVz1 := KVz5.out.cell 1 (v := .slice az Y.2.length cz) rfl; clear hb hb5))
   go_ret
   exact ⟨rfl, HB5.out⟩
theorem walk (vx : Value) (rx : Rw) (w : World) (hx : RawV w vx rx ∧ okR rx ∧ wfR rx) (htab : Tab w) :
  Calls Tryz.prog 4 #[vx] w fun e w' => e = .returned (.bool true) ∧ Below w.heap.size w w' := core vx rx w hx htab
theorem gTab : Tryz.prog.globalNamed "internal/strconv.uint64pow10" = some 0 := by kernel_rfl
theorem gTabType : (Tryz.prog.globals[0]?).map (·.type) = some 254 := by kernel_rfl
theorem cellsT : Tryz.prog.cellsOf 254 = 20 := by kernel_rfl
theorem cellsE : Tryz.prog.cellsOf 192 = 1 := by kernel_rfl
theorem tabEq : (Rows.laid_internal_strconv_uint64pow10 : DataW Unit) = Lib.tabData .u64 Lib.pow10Tab := by kernel_rfl
theorem tabOf {W : World} (h : laidMetH Tryz.prog Rows.leastAgainRow.laid W) : Tab W := by
 have h1 : laidMet Tryz.prog [("math/bits.deBruijn32tab", Rows.laid_math_bits_deBruijn32tab), ("math/bits.deBruijn64tab", Rows.laid_math_bits_deBruijn64tab), ("internal/strconv.uint64pow10", Rows.laid_internal_strconv_uint64pow10)] W := h
 have h2 : laidMet Tryz.prog [("internal/strconv.uint64pow10", Rows.laid_internal_strconv_uint64pow10)] W := h1.tail.tail
 rw [tabEq] at h2
 exact Lib.tabIs_of_head gTab gTabType Tryz.underlying254 Tryz.underlying192 cellsE cellsT h2
set_option maxRecDepth 100000 in
theorem contract (H : Type) (enc : TypeId × Value → H) (W : World) (base : Nat) (args : Array Value) (ds gs : List (DataW H)) (before : List MemPlace)
  (hval : ∀ (j : Nat) t v, Tryz.f4.params[j]? = some t → args[j]? = some v → Value.okWide Tryz.prog W .any base t v)
  (hW : DataW.Whole enc Tryz.prog Tryz.f4.params.toList Rows.leastAgainSpec.vars false W args.toList ds gs before)
  (hsz : (DataW.weightsEach Tryz.prog (Tryz.f4.params.toList ++ (OpenSpec.ofChange Rows.leastAgainSpec).bare.plain.varTypes Tryz.prog) (ds ++ gs)).all (· ≤ reachBytes) = true)
  (hL : laidMetH Tryz.prog Rows.leastAgainRow.laid W) :
  Calls Tryz.prog 4 args W fun e W' => ∃ v, e = .returned v ∧ Rows.leastAgainSpec.post enc Tryz.prog Tryz.f4 false true false false W args v W' := by
 have hW' := hW
 obtain ⟨p, q, hA0, hV, rfl, hfz, hnd⟩ := hW
 have hA : DataW.TrodAll enc Tryz.prog W 0 (fun _ => true) true Tryz.f4.params.toList args.toList ds p := hA0
 rw [Tryz.params4] at hA hval hsz
 obtain ⟨v0, vs0, d0, ds0, p0, q0, hargs, rfl, rfl, h0, r0⟩ := trodAll_cons hA
 obtain ⟨rfl, rfl, rfl⟩ := trodAll_nil r0
 obtain rfl : args = #[v0] := by cases args; simp_all
 obtain ⟨rfl, rfl⟩ := trodVars_none hV
 have k0 := h0
 have lt0 : ∀ x ∈ p0, x.block < W.heap.size := by obtain ⟨m, hm⟩ := k0; exact DataW.trod_lt m _ _ _ hm
 obtain ⟨z0, w0⟩ : ∃ m : Rw, RawV W v0 m ∧ okR m ∧ wfR m := by
  obtain ⟨c0, c1, y0, y1, n, rfl, hd, hp, t0, t1⟩ := Go.Joins.open_agg2 Tryz.underlying24 (by kernel_rfl) (by kernel_rfl) (hval 0 24 v0 rfl rfl) h0
  subst hd
  exact open_raw t0 t1 ((Fits.arg hsz (j := 0) rfl rfl).field Tryz.underlying24 (f := 1) rfl rfl)
 refine (walk v0 z0 W w0 (tabOf hL)).mono fun e W' ⟨he, bel⟩ => ?_
 subst he
 exact ⟨_, rfl, _, _, _, [], _, [], hW', trodAll_mk1 (shut_bool Tryz.underlying4 _), (trodAll_cons_mk (Below.trod laidOut (by kernel_rfl) (of_decide_eq_true (by kernel_rfl)) k0 bel lt0) trodAll_mk0), rfl, bel.frame _, fun h => by cases h⟩
def cells_laid_math_bits_deBruijn32tab : Array Value := #[.int .u8 0, .int .u8 1, .int .u8 28, .int .u8 2, .int .u8 29, .int .u8 14, .int .u8 24, .int .u8 3, .int .u8 30, .int .u8 22, .int .u8 20, .int .u8 15, .int .u8 25, .int .u8 17, .int .u8 4, .int .u8 8, .int .u8 31, .int .u8 27, .int .u8 13, .int .u8 23, .int .u8 21, .int .u8 19, .int .u8 16, .int .u8 7, .int .u8 26, .int .u8 12, .int .u8 18, .int .u8 6, .int .u8 11, .int .u8 5, .int .u8 10, .int .u8 9]
def cells_laid_math_bits_deBruijn64tab : Array Value := #[.int .u8 0, .int .u8 1, .int .u8 56, .int .u8 2, .int .u8 57, .int .u8 49, .int .u8 28, .int .u8 3, .int .u8 61, .int .u8 58, .int .u8 42, .int .u8 50, .int .u8 38, .int .u8 29, .int .u8 17, .int .u8 4, .int .u8 62, .int .u8 47, .int .u8 59, .int .u8 36, .int .u8 45, .int .u8 43, .int .u8 51, .int .u8 22, .int .u8 53, .int .u8 39, .int .u8 33, .int .u8 30, .int .u8 24, .int .u8 18, .int .u8 12, .int .u8 5, .int .u8 63, .int .u8 55, .int .u8 48, .int .u8 27, .int .u8 60, .int .u8 41, .int .u8 37, .int .u8 16, .int .u8 46, .int .u8 35, .int .u8 44, .int .u8 21, .int .u8 52, .int .u8 32, .int .u8 23, .int .u8 11, .int .u8 54, .int .u8 26, .int .u8 40, .int .u8 15, .int .u8 34, .int .u8 20, .int .u8 31, .int .u8 10, .int .u8 25, .int .u8 14, .int .u8 19, .int .u8 9, .int .u8 13, .int .u8 8, .int .u8 7, .int .u8 6]
def cells_laid_internal_strconv_uint64pow10 : Array Value := #[.int .u64 1, .int .u64 10, .int .u64 100, .int .u64 1000, .int .u64 10000, .int .u64 100000, .int .u64 1000000, .int .u64 10000000, .int .u64 100000000, .int .u64 1000000000, .int .u64 10000000000, .int .u64 100000000000, .int .u64 1000000000000, .int .u64 10000000000000, .int .u64 100000000000000, .int .u64 1000000000000000, .int .u64 10000000000000000, .int .u64 100000000000000000, .int .u64 1000000000000000000, .int .u64 10000000000000000000]
def layOne (c : Array Value) : Obj → Obj
 | .cells _ t frozen => .cells c t frozen
 | o => o
theorem laid_met (os : Os) : laidMet Tryz.prog Rows.leastAgainRow.laid (World.forCall ({ World.holding Tryz.prog os ⟨#[], #[], []⟩ with heap := ((((World.holding Tryz.prog os ⟨#[], #[], []⟩).heap.modify 1 (layOne cells_laid_math_bits_deBruijn32tab)).modify 2 (layOne cells_laid_math_bits_deBruijn64tab)).modify 0 (layOne cells_laid_internal_strconv_uint64pow10)) }) (fun _ _ => 0) ⟨#[], #[.agg #[.int .i64 0, .slice none 0 0]], []⟩).memory :=
 laidMet_of_run' 8 (by kernel_rfl) (by kernel_rfl)
theorem reads (os : Os) {H : Type} (enc : TypeId × Value → H) : ∃ places, DataW.whole enc Tryz.prog (World.forCall ({ World.holding Tryz.prog os ⟨#[], #[], []⟩ with heap := ((((World.holding Tryz.prog os ⟨#[], #[], []⟩).heap.modify 1 (layOne cells_laid_math_bits_deBruijn32tab)).modify 2 (layOne cells_laid_math_bits_deBruijn64tab)).modify 0 (layOne cells_laid_internal_strconv_uint64pow10)) }) (fun _ _ => 0) ⟨#[], #[.agg #[.int .i64 0, .slice none 0 0]], []⟩).memory Tryz.f4.params.toList Rows.leastAgainSpec.vars false (#[.agg #[.int .i64 0, .slice none 0 0]] : Array Value).toList 8 = some ([.agg [.lit (.int .i64 0), .nil]], [], places) :=
 ⟨[], by kernel_rfl⟩
set_option maxRecDepth 100000 in
theorem lifted (os : Os) (started : os.Started) (H : Type) (enc : TypeId × Value → H) (F : Stop.Interp) :
  ReturnsInHanded {} Tryz.checked os 4 .any ((OpenSpec.ofChange Rows.leastAgainSpec).preRow enc Tryz.prog Tryz.f4 Rows.leastAgainRow.domain false Rows.leastAgainRow.laid) (((OpenSpec.ofChange Rows.leastAgainSpec).at F).post enc Tryz.prog Tryz.f4 false true false false) := by
 obtain ⟨places, hx⟩ := reads os enc
 refine returnsInHanded_of_row (C := Tryz.checked) (s := OpenSpec.ofChange Rows.leastAgainSpec) own started (by kernel_rfl) Tryz.func4
  (witness_row_at (enc := enc) (C := Tryz.checked) false ({ World.holding Tryz.prog os ⟨#[], #[], []⟩ with heap := ((((World.holding Tryz.prog os ⟨#[], #[], []⟩).heap.modify 1 (layOne cells_laid_math_bits_deBruijn32tab)).modify 2 (layOne cells_laid_math_bits_deBruijn64tab)).modify 0 (layOne cells_laid_internal_strconv_uint64pow10)) }) #[.agg #[.int .i64 0, .slice none 0 0]] rfl (by kernel_rfl) (by kernel_rfl) (by kernel_rfl)
   (OpenSpec.preRow_of_cond 8 hx (by kernel_rfl) (fun k hk => by cases hk) (by kernel_rfl) (laid_met os))) ?_
 intro W base args ds gs before hval hW _ _ hsz hL _ _
 exact contract H enc W base args ds gs before hval hW hsz hL
theorem said : Rows.LeastAgainSaid :=
 OpenClaim.holds_of_cond 4 Tryz.f4 rfl rfl rfl rfl rfl rfl rfl ⟨rfl, rfl, rfl, rfl, rfl⟩ rfl rfl rfl rfl rfl (by kernel_rfl) Tryz.func4 (by kernel_rfl)
  (of_decide_eq_true (by kernel_rfl)) (by unfold Func.isWrapper; first | (rw [if_pos (by decide +kernel)]; kernel_rfl) | (rw [if_neg (by decide +kernel)]; exact ⟨rfl, rfl⟩))
  (fun os started H enc _ F => by rw [OpenClaim.pre_eq_preRow]; exact lifted os started H enc F)
theorem plain (f : FuncId) (fn : Func) (hf : Tryz.pinned.checked.prog.funcNamed "tropica/tropicakeep.LeastAgain" = some f) (hfn : Tryz.pinned.checked.prog.funcs[f]? = some fn) :
  true = Tryz.pinned.checked.prog.looks [] ∧ ∀ (j : Nat) t, fn.params[j]? = some t → Tryz.pinned.checked.prog.wantsStandIn t = false := by
 obtain rfl : f = 4 := Option.some.inj ((show Tryz.prog.funcNamed "tropica/tropicakeep.LeastAgain" = some 4 by kernel_rfl).symm.trans hf) |>.symm
 obtain rfl : fn = Tryz.f4 := (Option.some.inj (Tryz.func4.symm.trans hfn)).symm
 refine ⟨by kernel_rfl, fun j t ht => ?_⟩
 rw [Tryz.params4] at ht
 obtain rfl : t = 24 := by simpa using Array.mem_of_getElem? ht
 exact (show Tryz.prog.wantsStandIn 24 = false by kernel_rfl)
end Go.Proofs.YtfhjncpakgailaaGreatDoor.leastAgain
namespace Go.Proofs.YtfhjncpakgailaaGreatDoor
theorem leastAgain_card : Rows.LeastAgainCardSaid :=
 Claim7.holds_tied_plain_at .later [] _ _ _ _ leastAgain.said (fun _ h => by cases h) (by kernel_rfl) (fun _ h => by cases h) leastAgain_row_tie rfl ⟨rfl, rfl⟩ (by kernel_rfl) rfl leastAgain.plain (by kernel_rfl)
#print axioms leastAgain_card
end Go.Proofs.YtfhjncpakgailaaGreatDoor
