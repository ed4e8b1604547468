/- The statement LeastKeeps: whatever numbers a machine and two words are made of, made small it costs the total less and is certain, or it is too large to be made certain, for every input and without any condition (where the table of powers of ten that the standard library reads is as its text lays it: that is the card's tie). -/
import Derived.Test.YtfhjncpakgailaaGreatDoorCards
import Derived.Test.YtfhjncpakgailaaGreatDoorTie
import Derived.Test.YtfhjncpakgailaaGreatDoorMac
import Derived.Test.YtfhjncpakgailaaGreatDoorMak
import Derived.Test.YtfhjncpakgailaaGreatDoorMaR
import Derived.Test.YtfhjncpakgailaaGreatDoorMaS
import Derived.Test.YtfhjncpakgailaaGreatDoorMae
import Derived.Test.YtfhjncpakgailaaGreatDoorMaw
import Derived.Test.YtfhjncpakgailaaGreatDoorMax
import Derived.Test.YtfhjncpakgailaaGreatDoorMaQ
import Derived.Test.YtfhjncpakgailaaGreatDoorMaj
import Derived.Lib.SmallJoins
import Derived.ChangeOld
import Derived.Below
import Derived.Deep.DeepHandedRow
import Derived.Stop.LaidErr
namespace Go.Proofs.YtfhjncpakgailaaGreatDoor.leastKeeps
open Go.ChangeShapes Go.WideShapes Go.ChangeAt Go.RowKit
open Go.Proofs.YtfhjncpakgailaaGreatDoor.Pl Go.Proofs.YtfhjncpakgailaaGreatDoor.Wt
set_option linter.unusedVariables false
set_option linter.unusedSimpArgs false
theorem own : ownKnob Tryz.prog.godebug = none := by kernel_rfl
theorem laidOut : laidOutB Tryz.prog = true := by kernel_rfl
set_option maxRecDepth 100000 in
set_option maxHeartbeats 3200000 in
theorem core (vx : Value) (rx : Rw) (vv : Value) (zv : List Int) (vt : Value) (zt : List Int) (w : World) (hx : RawV w vx rx ∧ okR rx ∧ wfR rx) (hzv : Nums w vv zv) (hwv : ∀ n ∈ zv, (Lit.int .i64 n).wf = true) (hzt : Nums w vt zt) (hwt : ∀ n ∈ zt, (Lit.int .i64 n).wf = true) (htab : Tab w) :
  Calls Tryz.prog 3 #[vx, vv, vt] w fun e w' => e = .returned (.bool true) ∧ Below w.heap.size w w' := by
 have HTB : Hid (Tab w) := htab
 clear htab
 obtain ⟨hx, hokx, hwfx⟩ := hx
 have HIx : Hid (RawV w vx rx) := hx
 have HOKx : Hid (okR rx) := hokx
 have HWFx : Hid (wfR rx) := hwfx
 obtain ⟨vs0x, rfl, hNx⟩ := hx
 obtain ⟨a0x, c0x, rfl, hNxx⟩ := hNx.get
 clear hNx hNxx hokx hwfx
 have HZv := hidP hzv
 have HWDv : Hid (∀ v W, Nums W v zv → Calls Tryz.prog 12 #[v, .int .i64 4] W fun e w' => ∃ v', e = .returned v' ∧ Nums w' v' (wdL zv 4) ∧ Below W.heap.size W w') := fun v W h1 => word_any v zv 4 W h1 hwv (by omega)
 have ewv : wrdE (wdL zv 4) = 0 := wdL_wrd (by omega)
 have lwv := wdL_len zv 4
 clear hzv hwv
 have HZt := hidP hzt
 have HWDt : Hid (∀ v W, Nums W v zt → Calls Tryz.prog 12 #[v, .int .i64 4] W fun e w' => ∃ v', e = .returned v' ∧ Nums w' v' (wdL zt 4) ∧ Below W.heap.size W w') := fun v W h1 => word_any v zt 4 W h1 hwt (by omega)
 have ewt : wrdE (wdL zt 4) = 0 := wdL_wrd (by omega)
 have lwt := wdL_len zt 4
 clear hzt hwt
 obtain ⟨avz, cvz, rfl, _⟩ := HZv.out.get
 obtain ⟨atz, ctz, rfl, _⟩ := HZt.out.get
 rcases cerK_two rx 5 (by omega) (by omega) with hE | ⟨U, hU⟩
 ·have HFU : Hid (∀ v W, Tab W → RawV W v rx → okR rx → wfR rx → Calls Tryz.prog 9 #[v, .int .i64 5] W fun e w' => e = .returned (.bool true) ∧ Below W.heap.size W w') := fun v W hT h1 h2 h3 => full5_any v rx W h1 h2 h3 _ _ hE true rfl hT
  clear hE
  have HB0 : Hid (∀ o1, Below w.heap.size w (w.alloc o1)) := fun o1 => (Below.refl _ _).alloc (Nat.le_refl _) _
  go_enter Tryz.func3, Tryz.ntmps3
  go_wp2_with (first
   | (go_at_call 9; (with_reducible refine (HFU.out _ _ (HTB.out.later (HB0.out _)) (HIx.out.later (HB0.out _) (Nat.le_refl _)) HOKx.out HWFx.out).mono ?_); rintro e w1 ⟨rfl, hb⟩; obtain ⟨s1, bb0, hb1⟩ := boxed hb (by simp); have KX1 := hidP bb0; clear bb0; have HB1 := hidP hb1; have qX0 := KX1.out.cell 0 (v := .int .i64 rx.1) rfl; have qX1 := KX1.out.cell 1 (v := .slice a0x rx.2.length c0x) rfl; clear hb hb1))
  go_ret
  exact ⟨rfl, HB1.out⟩
 ·have HFU : Hid (∀ v W, Tab W → RawV W v rx → okR rx → wfR rx → Calls Tryz.prog 9 #[v, .int .i64 5] W fun e w' => e = .returned (.bool false) ∧ Below W.heap.size W w') := fun v W hT h1 h2 h3 => full5_any v rx W h1 h2 h3 _ _ hU.eq false rfl hT
  have HSM : Hid (∀ v W, Tab W → RawV W v rx → okR rx → wfR rx → Calls Tryz.prog 10 #[v, .int .i64 5] W fun e w' => ∃ v1 v2 Y, ∃ tt : Int, e = .returned (.tuple #[v1, v2, .int .i64 tt, .bool true]) ∧ (∃ p T vs, SmlU U Y tt p T vs) ∧ Mach w' v1 U ∧ Mach w' v2 Y ∧ Below W.heap.size W w') := fun v W hT h1 h2 h3 => small5_any v rx W h1 h2 h3 U hU.eq hU.right hU.cheap hU.crt hT
  have HLB : Hid (∀ Y tt, (∃ p T vs, SmlU U Y tt p T vs) → ∃ rA rS rP : Bool, ∀ W v, Mach W v Y → Calls Tryz.prog 11 #[v] W fun e w' => e = .returned (.tuple #[.agg #[.bool rA, .bool true, .bool true, .bool rS, .bool rP], .int .i64 0]) ∧ Below W.heap.size W w') := fun Y tt ⟨p, T, vs, hS⟩ => by
   obtain ⟨he, ho⟩ := crt_iff.1 hS.certain
   refine ⟨Y.2.all (fun s => s.2.all accA), Y.2.all (fun s => sortB s.2), (Y.2.all (fun s => s.2.all freeA) && Y.2.all freeS), fun W v h1 => ?_⟩
   have h2 := h1
   obtain ⟨vs, rfl, hS'⟩ := h2
   obtain ⟨a, cap, rfl⟩ := hS'.sl
   exact bits_ok _ a cap _ W h1 (right_ok hS.right) hS.right _ _ _ _ _ _ rfl (empB_full he) ho rfl rfl rfl
  have HLN : Hid (∀ Y tt, (∃ p T vs, SmlU U Y tt p T vs) → Y.2.length ≤ U.2.length ∧ 0 ≤ tt ∧ tt ≤ 1000000001) := fun Y tt ⟨p, T, vs, hS⟩ => by
   have := hS.psh.tot_rng
   exact ⟨hS.short, this.1, by omega⟩
  have HCu : Hid (∀ W v s t, Mach W v U → Nums W s (wdL zv 4) → Nums W t (wdL zt 4) → Calls Tryz.prog 13 #[v, s, t] W fun e w' => ∃ n : Int, e = .returned (.int .i64 n) ∧ CstIs (Costs U (wdL zv 4) (wdL zt 4)) n ∧ Below W.heap.size W w') := fun W v s t h1 h2 h3 => cost_any v s t _ _ _ W h1 (right_ok hU.right) hU.right hU.cheap h2 h3 ewv ewt
  have HCG : Hid (∀ Y tt, (∃ p T vs, SmlU U Y tt p T vs) → ∀ a, CstIs (Costs U (wdL zv 4) (wdL zt 4)) a → ∀ W v s t, Mach W v Y → Nums W s (wdL zv 4) → Nums W t (wdL zt 4) → Calls Tryz.prog 13 #[v, s, t] W fun e w' => ∃ n : Int, e = .returned (.int .i64 n) ∧ (bothI tt n = a ∧ 0 ≤ n ∧ n ≤ 1000000001) ∧ Below W.heap.size W w') := fun Y tt ⟨p, T, vs, hS⟩ a ha W v s t h1 h2 h3 => costW_any v s t Y _ _ W (fun n => bothI tt n = a ∧ 0 ≤ n ∧ n ≤ 1000000001) h1 (right_ok hS.right) hS.right h2 h3 ewv ewt fun n e hn => by
   obtain ⟨g1, g2, g3⟩ := hS.cost ha hn
   refine ⟨g1, g2, g3, ?_⟩
   rcases hn with ⟨_, rfl, _⟩ | ⟨c, _, ⟨_, rfl, _⟩ | ⟨_, rfl, _⟩⟩ <;> omega
  have HBA : Hid (∀ (a b : Int) W, 0 ≤ a → a ≤ 1000000001 → 0 ≤ b → b ≤ 1000000001 → Calls Tryz.prog 14 #[.int .i64 a, .int .i64 b] W fun e w' => e = .returned (.int .i64 (bothI a b)) ∧ Below W.heap.size W w') := fun a b W h1 h2 h3 h4 => by
   refine (both_any a b W ⟨h1, h2⟩ ⟨h3, h4⟩).mono ?_
   rintro e w' ⟨rfl, rfl⟩
   exact ⟨rfl, Below.refl _ _⟩
  have t4 : (0 : Int) < (U.2.length : Int) := by have := hU.pos; omega
  clear hU ewv ewt lwv lwt
  generalize wdL zv 4 = Xv at *
  generalize wdL zt 4 = Xt at *
  generalize hQQ : Costs U Xv Xt = QQ at *
  clear hQQ
  have HB0 : Hid (∀ o1, Below w.heap.size w (w.alloc o1)) := fun o1 => (Below.refl _ _).alloc (Nat.le_refl _) _
  go_enter Tryz.func3, Tryz.ntmps3
  go_wp2_with (first
   | (go_at_call 9; (with_reducible refine (HFU.out _ _ (HTB.out.later (HB0.out _)) (HIx.out.later (HB0.out _) (Nat.le_refl _)) HOKx.out HWFx.out).mono ?_); rintro e w1 ⟨rfl, hb⟩; obtain ⟨s1, bb0, hb1⟩ := boxed hb (by simp); have KX1 := hidP bb0; clear bb0; have HB1 := hidP hb1; have qX0 := KX1.out.cell 0 (v := .int .i64 rx.1) rfl; have qX1 := KX1.out.cell 1 (v := .slice a0x rx.2.length c0x) rfl; clear hb hb1)
   | (go_at_call 10; (with_reducible refine (HSM.out _ _ (HTB.out.later HB1.out) (HIx.out.later HB1.out (Nat.le_refl _)) HOKx.out HWFx.out).mono ?_); rintro e w2 ⟨v2, v2y, Y, tt, rfl, hq, hm, hmy, hb⟩; have HMu : Hid (Mach w2 v2 (U)) := hm; obtain ⟨vsu, rfl, hSu⟩ := hm; obtain ⟨au, cu, rfl⟩ := hSu.sl; clear hSu; have HMy : Hid (Mach w2 v2y Y) := hmy; obtain ⟨vsy, rfl, hSy⟩ := hmy; obtain ⟨ay, cy, rfl⟩ := hSy.sl; clear hSy; have HSU := hidP hq; clear hq; have hb2 := hb; have HB2 := hidP (HB1.out.trans (hb2.mono HB1.out.size)); have KX2 := hidP (KX1.out.below hb2 KX1.out.lt); have qX0 := ((KX2.out.alloc (.cells #[.int .i64 U.1, .slice au U.2.length cu] 29)).alloc (.cells #[.int .i64 Y.1, .slice ay Y.2.length cy] 29)).cell 0 (v := .int .i64 rx.1) rfl; have qX1 := ((KX2.out.alloc (.cells #[.int .i64 U.1, .slice au U.2.length cu] 29)).alloc (.cells #[.int .i64 Y.1, .slice ay Y.2.length cy] 29)).cell 1 (v := .slice a0x rx.2.length c0x) rfl; obtain ⟨tYU, tt0, tt9⟩ := HLN.out _ _ HSU.out; obtain ⟨rA, rS, rP, hBT⟩ := HLB.out _ _ HSU.out; have HBT := hidP hBT; clear hBT; clear hb hb2)
   | (go_at_call 11; (with_reducible refine (HBT.out _ _ (HMy.out.later (((Below.refl _ _).alloc (Nat.le_refl _) _).alloc (by simp) _) (Nat.le_refl _))).mono ?_); rintro e w3 ⟨rfl, hb⟩; obtain ⟨s3, bb0, bb1, hb3⟩ := boxedTwo hb (by simp); have KVu3 := hidP bb0; have KVy3 := hidP bb1; clear bb0 bb1; have HB3 := hidP (HB2.out.trans (hb3.mono HB2.out.size)); have KX3 := hidP (KX2.out.below hb3 KX2.out.lt); have Hu3 := hidP hb3; have Hy3 := hidP hb3; have qX0 := (KX3.out.alloc (.cells #[.bool rA, .bool true, .bool true, .bool rS, .bool rP] 33)).cell 0 (v := .int .i64 rx.1) rfl; have qX1 := (KX3.out.alloc (.cells #[.bool rA, .bool true, .bool true, .bool rS, .bool rP] 33)).cell 1 (v := .slice a0x rx.2.length c0x) rfl; have qVu0 := (KVu3.out.alloc (.cells #[.bool rA, .bool true, .bool true, .bool rS, .bool rP] 33)).cell 0 (v := .int .i64 U.1) rfl; have qVu1 := (KVu3.out.alloc (.cells #[.bool rA, .bool true, .bool true, .bool rS, .bool rP] 33)).cell 1 (v := .slice au U.2.length cu) rfl; have qVy0 := (KVy3.out.alloc (.cells #[.bool rA, .bool true, .bool true, .bool rS, .bool rP] 33)).cell 0 (v := .int .i64 Y.1) rfl; have qVy1 := (KVy3.out.alloc (.cells #[.bool rA, .bool true, .bool true, .bool rS, .bool rP] 33)).cell 1 (v := .slice ay Y.2.length cy) rfl; clear hb hb3)
   | (go_at_call 12; (with_reducible refine (HWDv.out _ _ (HZv.out.later (HB3.out.alloc HB3.out.size _) (Nat.le_refl _))).mono ?_); rintro e w4 ⟨v4, rfl, hn, hb⟩; have HNv : Hid (Nums w4 v4 (Xv)) := hn; obtain ⟨awv, cwv, rfl, _⟩ := hn.get; obtain ⟨s4, bb0, hb4⟩ := boxed hb (by simp); have KP4 := hidP bb0; clear bb0; have HB4 := hidP (HB3.out.trans (hb4.mono HB3.out.size)); have KX4 := hidP (KX3.out.below hb4 KX3.out.lt); have KVu4 := hidP (KVu3.out.below hb4 KVu3.out.lt); have KVy4 := hidP (KVy3.out.below hb4 KVy3.out.lt); have Hu4 := hidP (Hu3.out.trans (hb4.mono Hu3.out.size)); have Hy4 := hidP (Hy3.out.trans (hb4.mono Hy3.out.size)); have qX0 := KX4.out.cell 0 (v := .int .i64 rx.1) rfl; have qX1 := KX4.out.cell 1 (v := .slice a0x rx.2.length c0x) rfl; have qVu0 := KVu4.out.cell 0 (v := .int .i64 U.1) rfl; have qVu1 := KVu4.out.cell 1 (v := .slice au U.2.length cu) rfl; have qVy0 := KVy4.out.cell 0 (v := .int .i64 Y.1) rfl; have qVy1 := KVy4.out.cell 1 (v := .slice ay Y.2.length cy) rfl; have qP0 := KP4.out.cell 0 (v := .bool rA) rfl; have qP1 := KP4.out.cell 1 (v := .bool true) rfl; have qP2 := KP4.out.cell 2 (v := .bool true) rfl; have qP3 := KP4.out.cell 3 (v := .bool rS) rfl; have qP4 := KP4.out.cell 4 (v := .bool rP) rfl; clear hb hb4)
   | (go_at_call 12; (with_reducible refine (HWDt.out _ _ (HZt.out.later HB4.out (Nat.le_refl _))).mono ?_); rintro e w5 ⟨v5, rfl, hn, hb⟩; have HNt : Hid (Nums w5 v5 (Xt)) := hn; obtain ⟨awt, cwt, rfl, _⟩ := hn.get; have hb5 := hb; have HB5 := hidP (HB4.out.trans (hb5.mono HB4.out.size)); have KX5 := hidP (KX4.out.below hb5 KX4.out.lt); have KVu5 := hidP (KVu4.out.below hb5 KVu4.out.lt); have KVy5 := hidP (KVy4.out.below hb5 KVy4.out.lt); have KP5 := hidP (KP4.out.below hb5 KP4.out.lt); have Hu5 := hidP (Hu4.out.trans (hb5.mono Hu4.out.size)); have Hy5 := hidP (Hy4.out.trans (hb5.mono Hy4.out.size)); have Hv5 := hidP hb5; have qX0 := KX5.out.cell 0 (v := .int .i64 rx.1) rfl; have qX1 := KX5.out.cell 1 (v := .slice a0x rx.2.length c0x) rfl; have qVu0 := KVu5.out.cell 0 (v := .int .i64 U.1) rfl; have qVu1 := KVu5.out.cell 1 (v := .slice au U.2.length cu) rfl; have qVy0 := KVy5.out.cell 0 (v := .int .i64 Y.1) rfl; have qVy1 := KVy5.out.cell 1 (v := .slice ay Y.2.length cy) rfl; have qP0 := KP5.out.cell 0 (v := .bool rA) rfl; have qP1 := KP5.out.cell 1 (v := .bool true) rfl; have qP2 := KP5.out.cell 2 (v := .bool true) rfl; have qP3 := KP5.out.cell 3 (v := .bool rS) rfl; have qP4 := KP5.out.cell 4 (v := .bool rP) rfl; clear hb hb5)
   | (go_at_call 13; (with_reducible refine (HCu.out _ _ _ _ (HMu.out.later Hu5.out (Nat.le_refl _)) (HNv.out.later Hv5.out (Nat.le_refl _)) (HNt.out.later (Below.refl _ _) (Nat.le_refl _))).mono ?_); rintro e w6 ⟨nu, rfl, hq, hb⟩; have hb6 := hb; have HB6 := hidP (HB5.out.trans (hb6.mono HB5.out.size)); have KX6 := hidP (KX5.out.below hb6 KX5.out.lt); have KVu6 := hidP (KVu5.out.below hb6 KVu5.out.lt); have KVy6 := hidP (KVy5.out.below hb6 KVy5.out.lt); have KP6 := hidP (KP5.out.below hb6 KP5.out.lt); have Hu6 := hidP (Hu5.out.trans (hb6.mono Hu5.out.size)); have Hy6 := hidP (Hy5.out.trans (hb6.mono Hy5.out.size)); have Hv6 := hidP (Hv5.out.trans (hb6.mono Hv5.out.size)); have Ht6 := hidP hb6; have qX0 := KX6.out.cell 0 (v := .int .i64 rx.1) rfl; have qX1 := KX6.out.cell 1 (v := .slice a0x rx.2.length c0x) rfl; have qVu0 := KVu6.out.cell 0 (v := .int .i64 U.1) rfl; have qVu1 := KVu6.out.cell 1 (v := .slice au U.2.length cu) rfl; have qVy0 := KVy6.out.cell 0 (v := .int .i64 Y.1) rfl; have qVy1 := KVy6.out.cell 1 (v := .slice ay Y.2.length cy) rfl; have qP0 := KP6.out.cell 0 (v := .bool rA) rfl; have qP1 := KP6.out.cell 1 (v := .bool true) rfl; have qP2 := KP6.out.cell 2 (v := .bool true) rfl; have qP3 := KP6.out.cell 3 (v := .bool rS) rfl; have qP4 := KP6.out.cell 4 (v := .bool rP) rfl; have HQu := hidP hq; have nnu := hq.nonneg; clear hq; have HCY := hidP (HCG.out _ _ HSU.out _ HQu.out); clear hb hb6)
   | (go_at_call 13; (with_reducible refine (HCY.out _ _ _ _ (HMy.out.later Hy6.out (Nat.le_refl _)) (HNv.out.later Hv6.out (Nat.le_refl _)) (HNt.out.later Ht6.out (Nat.le_refl _))).mono ?_); rintro e w7 ⟨ny, rfl, hq, hb⟩; have hb7 := hb; have HB7 := hidP (HB6.out.trans (hb7.mono HB6.out.size)); have KX7 := hidP (KX6.out.below hb7 KX6.out.lt); have KVu7 := hidP (KVu6.out.below hb7 KVu6.out.lt); have KVy7 := hidP (KVy6.out.below hb7 KVy6.out.lt); have KP7 := hidP (KP6.out.below hb7 KP6.out.lt); have Hu7 := hidP (Hu6.out.trans (hb7.mono Hu6.out.size)); have Hy7 := hidP (Hy6.out.trans (hb7.mono Hy6.out.size)); have Hv7 := hidP (Hv6.out.trans (hb7.mono Hv6.out.size)); have Ht7 := hidP (Ht6.out.trans (hb7.mono Ht6.out.size)); have qX0 := KX7.out.cell 0 (v := .int .i64 rx.1) rfl; have qX1 := KX7.out.cell 1 (v := .slice a0x rx.2.length c0x) rfl; have qVu0 := KVu7.out.cell 0 (v := .int .i64 U.1) rfl; have qVu1 := KVu7.out.cell 1 (v := .slice au U.2.length cu) rfl; have qVy0 := KVy7.out.cell 0 (v := .int .i64 Y.1) rfl; have qVy1 := KVy7.out.cell 1 (v := .slice ay Y.2.length cy) rfl; have qP0 := KP7.out.cell 0 (v := .bool rA) rfl; have qP1 := KP7.out.cell 1 (v := .bool true) rfl; have qP2 := KP7.out.cell 2 (v := .bool true) rfl; have qP3 := KP7.out.cell 3 (v := .bool rS) rfl; have qP4 := KP7.out.cell 4 (v := .bool rP) rfl; obtain ⟨g1, g2, g3⟩ := hq; have HG1 := hidP g1; clear g1; clear hb hb7)
   | (go_at_call 14; (with_reducible refine (HBA.out _ _ _ tt0 tt9 g2 g3).mono ?_); rintro e w8 ⟨rfl, hb⟩; have hb8 := hb; have HB8 := hidP (HB7.out.trans (hb8.mono HB7.out.size)); have KX8 := hidP (KX7.out.below hb8 KX7.out.lt); have KVu8 := hidP (KVu7.out.below hb8 KVu7.out.lt); have KVy8 := hidP (KVy7.out.below hb8 KVy7.out.lt); have KP8 := hidP (KP7.out.below hb8 KP7.out.lt); have Hu8 := hidP (Hu7.out.trans (hb8.mono Hu7.out.size)); have Hy8 := hidP (Hy7.out.trans (hb8.mono Hy7.out.size)); have Hv8 := hidP (Hv7.out.trans (hb8.mono Hv7.out.size)); have Ht8 := hidP (Ht7.out.trans (hb8.mono Ht7.out.size)); have qX0 := KX8.out.cell 0 (v := .int .i64 rx.1) rfl; have qX1 := KX8.out.cell 1 (v := .slice a0x rx.2.length c0x) rfl; have qVu0 := KVu8.out.cell 0 (v := .int .i64 U.1) rfl; have qVu1 := KVu8.out.cell 1 (v := .slice au U.2.length cu) rfl; have qVy0 := KVy8.out.cell 0 (v := .int .i64 Y.1) rfl; have qVy1 := KVy8.out.cell 1 (v := .slice ay Y.2.length cy) rfl; have qP0 := KP8.out.cell 0 (v := .bool rA) rfl; have qP1 := KP8.out.cell 1 (v := .bool true) rfl; have qP2 := KP8.out.cell 2 (v := .bool true) rfl; have qP3 := KP8.out.cell 3 (v := .bool rS) rfl; have qP4 := KP8.out.cell 4 (v := .bool rP) rfl; have tb : (bothI tt ny == nu) = true := (by rw [HG1.out]; simp); clear hb hb8))
  go_ret
  exact ⟨rfl, HB8.out⟩
theorem walk (vx : Value) (rx : Rw) (a1 : Option Addr) (len1 cap1 : Nat) (z1 : List Int) (a2 : Option Addr) (len2 cap2 : Nat) (z2 : List Int) (w : World) (hx : RawV w vx rx ∧ okR rx ∧ wfR rx) (w1 : IsRow .i64 w a1 len1 cap1 z1 ∧ cap1 * 8 ≤ 140737488351232) (w2 : IsRow .i64 w a2 len2 cap2 z2 ∧ cap2 * 8 ≤ 140737488351232) (htab : Tab w) :
  Calls Tryz.prog 3 #[vx, .slice a1 len1 cap1, .slice a2 len2 cap2] w fun e w' => e = .returned (.bool true) ∧ Below w.heap.size w w' := by
 obtain ⟨p1, _, _⟩ := row_nums w1.1
 obtain ⟨p2, _, _⟩ := row_nums w2.1
 exact core vx rx _ _ _ _ w hx p1 (row_wf w1.1) p2 (row_wf w2.1) htab
theorem gTab : Tryz.prog.globalNamed "internal/strconv.uint64pow10" = some 0 := by kernel_rfl
theorem gTabType : (Tryz.prog.globals[0]?).map (·.type) = some 254 := by kernel_rfl
theorem cellsT : Tryz.prog.cellsOf 254 = 20 := by kernel_rfl
theorem cellsE : Tryz.prog.cellsOf 192 = 1 := by kernel_rfl
theorem tabEq : (Rows.laid_internal_strconv_uint64pow10 : DataW Unit) = Lib.tabData .u64 Lib.pow10Tab := by kernel_rfl
theorem tabOf {W : World} (h : laidMetH Tryz.prog Rows.leastKeepsRow.laid W) : Tab W := by
 have h1 : laidMet Tryz.prog [("math/bits.deBruijn32tab", Rows.laid_math_bits_deBruijn32tab), ("math/bits.deBruijn64tab", Rows.laid_math_bits_deBruijn64tab), ("internal/strconv.uint64pow10", Rows.laid_internal_strconv_uint64pow10)] W := h
 have h2 : laidMet Tryz.prog [("internal/strconv.uint64pow10", Rows.laid_internal_strconv_uint64pow10)] W := h1.tail.tail
 rw [tabEq] at h2
 exact Lib.tabIs_of_head gTab gTabType Tryz.underlying254 Tryz.underlying192 cellsE cellsT h2
set_option maxRecDepth 100000 in
theorem contract (H : Type) (enc : TypeId × Value → H) (W : World) (base : Nat) (args : Array Value) (ds gs : List (DataW H)) (before : List MemPlace)
  (hval : ∀ (j : Nat) t v, Tryz.f3.params[j]? = some t → args[j]? = some v → Value.okWide Tryz.prog W .any base t v)
  (hW : DataW.Whole enc Tryz.prog Tryz.f3.params.toList Rows.leastKeepsSpec.vars false W args.toList ds gs before)
  (hsz : (DataW.weightsEach Tryz.prog (Tryz.f3.params.toList ++ (OpenSpec.ofChange Rows.leastKeepsSpec).bare.plain.varTypes Tryz.prog) (ds ++ gs)).all (· ≤ reachBytes) = true)
  (hL : laidMetH Tryz.prog Rows.leastKeepsRow.laid W) :
  Calls Tryz.prog 3 args W fun e W' => ∃ v, e = .returned v ∧ Rows.leastKeepsSpec.post enc Tryz.prog Tryz.f3 false true false false W args v W' := by
 have hW' := hW
 obtain ⟨p, q, hA0, hV, rfl, hfz, hnd⟩ := hW
 have hA : DataW.TrodAll enc Tryz.prog W 0 (fun _ => true) true Tryz.f3.params.toList args.toList ds p := hA0
 rw [Tryz.params3] at hA hval hsz
 obtain ⟨v0, vs0, d0, ds0, p0, q0, hargs, rfl, rfl, h0, r0⟩ := trodAll_cons hA
 obtain ⟨v1, vs1, d1, ds1, p1, q1, rfl, rfl, rfl, h1, r1⟩ := trodAll_cons r0
 obtain ⟨v2, vs2, d2, ds2, p2, q2, rfl, rfl, rfl, h2, r2⟩ := trodAll_cons r1
 obtain ⟨rfl, rfl, rfl⟩ := trodAll_nil r2
 obtain rfl : args = #[v0, v1, v2] := by cases args; simp_all
 obtain ⟨rfl, rfl⟩ := trodVars_none hV
 have k0 := h0
 have lt0 : ∀ x ∈ p0, x.block < W.heap.size := by obtain ⟨m, hm⟩ := k0; exact DataW.trod_lt m _ _ _ hm
 obtain ⟨z0, w0⟩ : ∃ m : Rw, RawV W v0 m ∧ okR m ∧ wfR m := by
  obtain ⟨c0, c1, y0, y1, n, rfl, hd, hp, t0, t1⟩ := Go.Joins.open_agg2 Tryz.underlying24 (by kernel_rfl) (by kernel_rfl) (hval 0 24 v0 rfl rfl) h0
  subst hd
  exact open_raw t0 t1 ((Fits.arg hsz (j := 0) rfl rfl).field Tryz.underlying24 (f := 1) rfl rfl)
 obtain ⟨a1, len1, cap1, rfl⟩ := okWide_slice Tryz.underlying25 (hval 1 25 v1 rfl rfl)
 have k1 := h1
 have lt1 : ∀ x ∈ p1, x.block < W.heap.size := by obtain ⟨m, hm⟩ := k1; exact DataW.trod_lt m _ _ _ hm
 obtain ⟨z1, w1⟩ : ∃ zs, IsRow .i64 W a1 len1 cap1 zs ∧ cap1 * 8 ≤ 140737488351232 := by
  obtain ⟨fuel, hf⟩ := h1
  rcases open_ints Tryz.underlying25 Tryz.underlying3 (by kernel_rfl) hf with ⟨hcs, _⟩ | ⟨x, l, c, zs, hcs, _, hl, hm, hz, hx, hcell, hwz⟩
  ·simp [Value.cells] at hcs
   obtain ⟨rfl, rfl, rfl⟩ := hcs
   exact ⟨[], .inl ⟨rfl, rfl, rfl, rfl⟩, by omega⟩
  ·have hd := congrArg Prod.fst hx
   have hsw := sized_slice hsz (j := 1) (t := 25) (e := 3) rfl (congrArg some hd) Tryz.underlying25
   have hby : Tryz.prog.bytesOf 3 = 8 := by kernel_rfl
   rw [hby] at hsw
   simp [Value.cells] at hcs
   obtain ⟨rfl, rfl, rfl⟩ := hcs
   have hz' : zs.length = cap1 := by simpa using hz
   simp only [lits, List.length_map, List.length_take, List.length_drop, reachBytes] at hsw
   exact ⟨zs, .inr ⟨_, rfl, hl, hm, hz', hcell, hwz⟩, by omega⟩
 obtain ⟨a2, len2, cap2, rfl⟩ := okWide_slice Tryz.underlying25 (hval 2 25 v2 rfl rfl)
 have k2 := h2
 have lt2 : ∀ x ∈ p2, x.block < W.heap.size := by obtain ⟨m, hm⟩ := k2; exact DataW.trod_lt m _ _ _ hm
 obtain ⟨z2, w2⟩ : ∃ zs, IsRow .i64 W a2 len2 cap2 zs ∧ cap2 * 8 ≤ 140737488351232 := by
  obtain ⟨fuel, hf⟩ := h2
  rcases open_ints Tryz.underlying25 Tryz.underlying3 (by kernel_rfl) hf with ⟨hcs, _⟩ | ⟨x, l, c, zs, hcs, _, hl, hm, hz, hx, hcell, hwz⟩
  ·simp [Value.cells] at hcs
   obtain ⟨rfl, rfl, rfl⟩ := hcs
   exact ⟨[], .inl ⟨rfl, rfl, rfl, rfl⟩, by omega⟩
  ·have hd := congrArg Prod.fst hx
   have hsw := sized_slice hsz (j := 2) (t := 25) (e := 3) rfl (congrArg some hd) Tryz.underlying25
   have hby : Tryz.prog.bytesOf 3 = 8 := by kernel_rfl
   rw [hby] at hsw
   simp [Value.cells] at hcs
   obtain ⟨rfl, rfl, rfl⟩ := hcs
   have hz' : zs.length = cap2 := by simpa using hz
   simp only [lits, List.length_map, List.length_take, List.length_drop, reachBytes] at hsw
   exact ⟨zs, .inr ⟨_, rfl, hl, hm, hz', hcell, hwz⟩, by omega⟩
 refine (walk v0 z0 a1 len1 cap1 z1 a2 len2 cap2 z2 W w0 w1 w2 (tabOf hL)).mono fun e W' ⟨he, bel⟩ => ?_
 subst he
 exact ⟨_, rfl, _, _, _, [], _, [], hW', trodAll_mk1 (shut_bool Tryz.underlying4 _), (trodAll_cons_mk (Below.trod laidOut (by kernel_rfl) (of_decide_eq_true (by kernel_rfl)) k0 bel lt0) (trodAll_cons_mk (Below.trod laidOut (by kernel_rfl) (of_decide_eq_true (by kernel_rfl)) k1 bel lt1) (trodAll_cons_mk (Below.trod laidOut (by kernel_rfl) (of_decide_eq_true (by kernel_rfl)) k2 bel lt2) trodAll_mk0))), rfl, bel.frame _, fun h => by cases h⟩
def cells_laid_math_bits_deBruijn32tab : Array Value := #[.int .u8 0, .int .u8 1, .int .u8 28, .int .u8 2, .int .u8 29, .int .u8 14, .int .u8 24, .int .u8 3, .int .u8 30, .int .u8 22, .int .u8 20, .int .u8 15, .int .u8 25, .int .u8 17, .int .u8 4, .int .u8 8, .int .u8 31, .int .u8 27, .int .u8 13, .int .u8 23, .int .u8 21, .int .u8 19, .int .u8 16, .int .u8 7, .int .u8 26, .int .u8 12, .int .u8 18, .int .u8 6, .int .u8 11, .int .u8 5, .int .u8 10, .int .u8 9]
def cells_laid_math_bits_deBruijn64tab : Array Value := #[.int .u8 0, .int .u8 1, .int .u8 56, .int .u8 2, .int .u8 57, .int .u8 49, .int .u8 28, .int .u8 3, .int .u8 61, .int .u8 58, .int .u8 42, .int .u8 50, .int .u8 38, .int .u8 29, .int .u8 17, .int .u8 4, .int .u8 62, .int .u8 47, .int .u8 59, .int .u8 36, .int .u8 45, .int .u8 43, .int .u8 51, .int .u8 22, .int .u8 53, .int .u8 39, .int .u8 33, .int .u8 30, .int .u8 24, .int .u8 18, .int .u8 12, .int .u8 5, .int .u8 63, .int .u8 55, .int .u8 48, .int .u8 27, .int .u8 60, .int .u8 41, .int .u8 37, .int .u8 16, .int .u8 46, .int .u8 35, .int .u8 44, .int .u8 21, .int .u8 52, .int .u8 32, .int .u8 23, .int .u8 11, .int .u8 54, .int .u8 26, .int .u8 40, .int .u8 15, .int .u8 34, .int .u8 20, .int .u8 31, .int .u8 10, .int .u8 25, .int .u8 14, .int .u8 19, .int .u8 9, .int .u8 13, .int .u8 8, .int .u8 7, .int .u8 6]
def cells_laid_internal_strconv_uint64pow10 : Array Value := #[.int .u64 1, .int .u64 10, .int .u64 100, .int .u64 1000, .int .u64 10000, .int .u64 100000, .int .u64 1000000, .int .u64 10000000, .int .u64 100000000, .int .u64 1000000000, .int .u64 10000000000, .int .u64 100000000000, .int .u64 1000000000000, .int .u64 10000000000000, .int .u64 100000000000000, .int .u64 1000000000000000, .int .u64 10000000000000000, .int .u64 100000000000000000, .int .u64 1000000000000000000, .int .u64 10000000000000000000]
def layOne (c : Array Value) : Obj → Obj
 | .cells _ t frozen => .cells c t frozen
 | o => o
theorem laid_met (os : Os) : laidMet Tryz.prog Rows.leastKeepsRow.laid (World.forCall ({ World.holding Tryz.prog os ⟨#[], #[], []⟩ with heap := ((((World.holding Tryz.prog os ⟨#[], #[], []⟩).heap.modify 1 (layOne cells_laid_math_bits_deBruijn32tab)).modify 2 (layOne cells_laid_math_bits_deBruijn64tab)).modify 0 (layOne cells_laid_internal_strconv_uint64pow10)) }) (fun _ _ => 0) ⟨#[], #[.agg #[.int .i64 0, .slice none 0 0], .slice none 0 0, .slice none 0 0], []⟩).memory :=
 laidMet_of_run' 8 (by kernel_rfl) (by kernel_rfl)
theorem reads (os : Os) {H : Type} (enc : TypeId × Value → H) : ∃ places, DataW.whole enc Tryz.prog (World.forCall ({ World.holding Tryz.prog os ⟨#[], #[], []⟩ with heap := ((((World.holding Tryz.prog os ⟨#[], #[], []⟩).heap.modify 1 (layOne cells_laid_math_bits_deBruijn32tab)).modify 2 (layOne cells_laid_math_bits_deBruijn64tab)).modify 0 (layOne cells_laid_internal_strconv_uint64pow10)) }) (fun _ _ => 0) ⟨#[], #[.agg #[.int .i64 0, .slice none 0 0], .slice none 0 0, .slice none 0 0], []⟩).memory Tryz.f3.params.toList Rows.leastKeepsSpec.vars false (#[.agg #[.int .i64 0, .slice none 0 0], .slice none 0 0, .slice none 0 0] : Array Value).toList 8 = some ([.agg [.lit (.int .i64 0), .nil], .nil, .nil], [], places) :=
 ⟨[], by kernel_rfl⟩
set_option maxRecDepth 100000 in
theorem lifted (os : Os) (started : os.Started) (H : Type) (enc : TypeId × Value → H) (F : Stop.Interp) :
  ReturnsInHanded {} Tryz.checked os 3 .any ((OpenSpec.ofChange Rows.leastKeepsSpec).preRow enc Tryz.prog Tryz.f3 Rows.leastKeepsRow.domain false Rows.leastKeepsRow.laid) (((OpenSpec.ofChange Rows.leastKeepsSpec).at F).post enc Tryz.prog Tryz.f3 false true false false) := by
 obtain ⟨places, hx⟩ := reads os enc
 refine returnsInHanded_of_row (C := Tryz.checked) (s := OpenSpec.ofChange Rows.leastKeepsSpec) own started (by kernel_rfl) Tryz.func3
  (witness_row_at (enc := enc) (C := Tryz.checked) false ({ World.holding Tryz.prog os ⟨#[], #[], []⟩ with heap := ((((World.holding Tryz.prog os ⟨#[], #[], []⟩).heap.modify 1 (layOne cells_laid_math_bits_deBruijn32tab)).modify 2 (layOne cells_laid_math_bits_deBruijn64tab)).modify 0 (layOne cells_laid_internal_strconv_uint64pow10)) }) #[.agg #[.int .i64 0, .slice none 0 0], .slice none 0 0, .slice none 0 0] rfl (by kernel_rfl) (by kernel_rfl) (by kernel_rfl)
   (OpenSpec.preRow_of_cond 8 hx (by kernel_rfl) (fun k hk => by cases hk) (by kernel_rfl) (laid_met os))) ?_
 intro W base args ds gs before hval hW _ _ hsz hL _ _
 exact contract H enc W base args ds gs before hval hW hsz hL
theorem said : Rows.LeastKeepsSaid :=
 OpenClaim.holds_of_cond 3 Tryz.f3 rfl rfl rfl rfl rfl rfl rfl ⟨rfl, rfl, rfl, rfl, rfl⟩ rfl rfl rfl rfl rfl (by kernel_rfl) Tryz.func3 (by kernel_rfl)
  (of_decide_eq_true (by kernel_rfl)) (by unfold Func.isWrapper; first | (rw [if_pos (by decide +kernel)]; kernel_rfl) | (rw [if_neg (by decide +kernel)]; exact ⟨rfl, rfl⟩))
  (fun os started H enc _ F => by rw [OpenClaim.pre_eq_preRow]; exact lifted os started H enc F)
theorem plain (f : FuncId) (fn : Func) (hf : Tryz.pinned.checked.prog.funcNamed "tropica/tropicakeep.LeastKeeps" = some f) (hfn : Tryz.pinned.checked.prog.funcs[f]? = some fn) :
  true = Tryz.pinned.checked.prog.looks [] ∧ ∀ (j : Nat) t, fn.params[j]? = some t → Tryz.pinned.checked.prog.wantsStandIn t = false := by
 obtain rfl : f = 3 := Option.some.inj ((show Tryz.prog.funcNamed "tropica/tropicakeep.LeastKeeps" = some 3 by kernel_rfl).symm.trans hf) |>.symm
 obtain rfl : fn = Tryz.f3 := (Option.some.inj (Tryz.func3.symm.trans hfn)).symm
 refine ⟨by kernel_rfl, fun j t ht => ?_⟩
 rw [Tryz.params3] at ht
 have h9 : t = 24 ∨ t = 25 := by simpa using Array.mem_of_getElem? ht
 rcases h9 with rfl | rfl
 ·exact (show Tryz.prog.wantsStandIn 24 = false by kernel_rfl)
 ·exact (show Tryz.prog.wantsStandIn 25 = false by kernel_rfl)
end Go.Proofs.YtfhjncpakgailaaGreatDoor.leastKeeps
namespace Go.Proofs.YtfhjncpakgailaaGreatDoor
theorem leastKeeps_card : Rows.LeastKeepsCardSaid :=
 Claim7.holds_tied_plain_at .later [] _ _ _ _ leastKeeps.said (fun _ h => by cases h) (by kernel_rfl) (fun _ h => by cases h) leastKeeps_row_tie rfl ⟨rfl, rfl⟩ (by kernel_rfl) rfl leastKeeps.plain (by kernel_rfl)
#print axioms leastKeeps_card
end Go.Proofs.YtfhjncpakgailaaGreatDoor
