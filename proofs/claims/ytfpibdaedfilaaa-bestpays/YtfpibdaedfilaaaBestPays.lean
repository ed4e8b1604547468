/- The statement BestPays: the best path pays just what the least is, by Follow, by its arcs and by its labels, for every input and without any condition. -/
import Derived.Test.YtfpibdaedfilaaaEaf
import Derived.Test.YtfpibdaedfilaaaEah
import Derived.Test.YtfpibdaedfilaaaEao
import Derived.Test.YtfpibdaedfilaaaEas
import Derived.Test.YtfpibdaedfilaaaEaz
import Derived.Test.YtfpibdaedfilaaaEaB
import Derived.Test.YtfpibdaedfilaaaEae
import Derived.Lib.SmallJoins
import Derived.ChangeOld
import Derived.Below
namespace Go.Proofs.Ytfpibdaedfilaaa.bestPays
open Go.ChangeShapes Go.WideShapes Go.ChangeAt Go.RowKit
open Go.Proofs.Ytfpibdaedfilaaa.Pl Go.Proofs.Ytfpibdaedfilaaa.Wt Go.Proofs.Ytfpibdaedfilaaa.Bw
set_option linter.unusedVariables false
set_option linter.unusedSimpArgs false
theorem own : ownKnob Try.prog.godebug = none := by kernel_rfl
theorem laidOut : laidOutB Try.prog = true := by kernel_rfl
theorem nums_slN {w : World} {v : Value} {L : List Nat} (h : Nums w v (L.map fun i : Nat => (i : Int))) : ∃ a c, v = .slice a L.length c := by
 obtain ⟨a, c, h1⟩ := Row.sl h
 rw [List.length_map] at h1
 exact ⟨a, c, h1⟩
set_option maxRecDepth 100000 in
set_option maxHeartbeats 6400000 in
theorem core (v : Value) (r : Rw) (w : World) (h : RawV w v r) (hok : okR r) (hwf : wfR r) :
  Calls Try.prog 4 #[v] w fun e w' => e = .returned (.bool true) ∧ Below w.heap.size w w' := by
 obtain ⟨hf, hch, h8, _, h0⟩ := made_facts r 8 (by omega) (by omega)
 have hz := made_start r 8 false (by omega)
 have HMD : Hid (∀ W v, RawV W v r → Calls Try.prog 13 #[v, .int .i64 8, .bool false] W fun e w' => ∃ v', e = .returned v' ∧ Mach w' v' (madeM r 8 false) ∧ Below W.heap.size W w') := fun W v h1 => made_any v r 8 false W h1 hok hwf (by omega) (by omega)
 have HI := hidP h
 obtain ⟨z, hzz⟩ : ∃ z : Nat, (madeM r 8 false).1 = (z : Int) := ⟨(madeM r 8 false).1.toNat, by omega⟩
 obtain ⟨l, hll⟩ : ∃ l, (madeM r 8 false).2 = l := ⟨_, rfl⟩
 have hmm : madeM r 8 false = ((z : Int), l) := Prod.ext hzz hll
 rw [hmm] at hf hch h8 h0 HMD
 clear hz hzz hll hmm hok hwf h
 have HF := hidP hf
 have HCH := hidP hch
 have HK : Hid (okM ((z : Int), l)) := right_ok hf
 obtain ⟨vr0, rfl, hN⟩ := HI.out
 obtain ⟨ar, cr, rfl, hN2⟩ := hN.get
 clear hN hN2
 have hzl : z < l.length := by have := start_lt HF.out; simp only at this; omega
 simp only at h8 h0
 obtain ⟨wd, hwd⟩ : ∃ n, CstIs (EndC l z) n := cst_exists (fun c h => end_bound (m := ((z : Int), l)) hf hch (q := z) hzl h)
 have HWD := hidP hwd
 have HLC : Hid (∀ W v, Mach W v ((z : Int), l) → Calls Try.prog 12 #[v] W fun e w' => e = .returned (.tuple #[.int .i64 wd, .int .i64 0]) ∧ Below W.heap.size W w') := fun W v h1 => (least_cst v ((z : Int), l) W h1 HF.out HCH.out (by omega)).mono fun e w' ⟨n', he, ha, hb⟩ => by
  have := ha.eq HWD.out (fun c => Iff.rfl)
  subst this
  exact ⟨he, hb⟩
 clear hwd
 clear hf hch
 have HU : Hid (Below w.heap.size w (w.alloc (.cells #[.int .i64 r.1, .slice ar r.2.length cr] 24))) := by show Below _ _ _; go_grown
 go_enter Try.func4, Try.ntmps4
 go_wp2_with (first
  | (go_at_call 13; (with_reducible refine (HMD.out _ _ (HI.out.later HU.out (Nat.le_refl _))).mono ?_); rintro e w1 ⟨v1, rfl, hm, hb⟩; have HMa := hidP hm; obtain ⟨vs1, rfl, hS1⟩ := hm; obtain ⟨a, cap, rfl⟩ := hS1.sl; clear hS1; have HU1 : Hid (Below w1.heap.size w1 (w1.alloc (.cells #[.int .i64 (z : Int), .slice a l.length cap] 27))) := (Below.refl _ _).alloc (Nat.le_refl _) _; have HB1 : Hid (Below w.heap.size w (w1.alloc (.cells #[.int .i64 (z : Int), .slice a l.length cap] 27))) := (HU.out.trans (hb.mono HU.out.size)).trans (HU1.out.mono (HU.out.trans (hb.mono HU.out.size)).size); have BM1 : Hid (Blk (w1.alloc (.cells #[.int .i64 (z : Int), .slice a l.length cap] 27)) w1.heap.size #[.int .i64 (z : Int), .slice a l.length cap] 27) := Blk.made w1 _ _; have HM1 : Hid (Mach (w1.alloc (.cells #[.int .i64 (z : Int), .slice a l.length cap] 27)) (.agg #[.int .i64 (z : Int), .slice a l.length cap]) ((z : Int), l)) := HMa.out.later HU1.out (Nat.le_refl _); clear hb HMa)
  | (go_at_call 14; (with_reducible refine (bestP_any _ ((z : Int), l) _ HM1.out HK.out).mono ?_); rintro e w2 ⟨va, L, wt, ec, rfl, hq, hn, hb⟩; have HQ := hidP hq; have HN := hidP hn; obtain ⟨pa, pc, rfl⟩ := nums_slN hn; have HU2 : Hid (Below w2.heap.size w2 (w2.alloc (.cells #[.int .i64 wt, .slice pa L.length pc] 40))) := (Below.refl _ _).alloc (Nat.le_refl _) _; have HBx : Hid (Below (w1.alloc (.cells #[.int .i64 (z : Int), .slice a l.length cap] 27)).heap.size (w1.alloc (.cells #[.int .i64 (z : Int), .slice a l.length cap] 27)) (w2.alloc (.cells #[.int .i64 wt, .slice pa L.length pc] 40))) := hb.trans (HU2.out.mono hb.size); have BM2 := hidP (BM1.out.below HBx.out BM1.out.lt); have HM2 := hidP (HM1.out.later HBx.out (Nat.le_refl _)); have HB2 : Hid (Below w.heap.size w _) := HB1.out.trans (HBx.out.mono HB1.out.size); have BP2 : Hid (Blk (w2.alloc (.cells #[.int .i64 wt, .slice pa L.length pc] 40)) w2.heap.size #[.int .i64 wt, .slice pa L.length pc] 40) := Blk.made w2 _ _; have HN2 : Hid (Nums (w2.alloc (.cells #[.int .i64 wt, .slice pa L.length pc] 40)) (.slice pa L.length pc) (L.map fun i : Nat => (i : Int))) := HN.out.later HU2.out (Nat.le_refl _); have m02 := BM2.out.cell 0 (v := .int .i64 (z : Int)) rfl; have m12 := BM2.out.cell 1 (v := .slice a l.length cap) rfl; clear hq hn hb HBx HN HU2 BM1 HM1))
 have hcase := best_pays HF.out HCH.out (by simp only; omega) HQ.out (w := wd) (by simp only [Int.toNat_natCast]; exact HWD.out)
 rcases hcase with ⟨hw, rfl, hL, hwt⟩ | ⟨hw, hw0, hw1, rfl, rfl, hLl, x, y, hfl, hxy⟩
 ·have hw1 : (wd == 1000000001) = true := by simpa using hw
  have hL0 : ((L.length : Int) == 0) = true := by simp [hL]
  have hwt0 : (wt == 0) = true := by simpa using hwt
  clear hw hL hwt
  go_wp2_with (first
   | (go_at_call 12; (with_reducible refine (HLC.out _ _ HM2.out).mono ?_); rintro e w3 ⟨rfl, hb⟩; have BM3 := hidP (BM2.out.below hb BM2.out.lt); have BP3 := hidP (BP2.out.below hb BP2.out.lt); have HM3 := hidP (HM2.out.later hb (Nat.le_refl _)); have HN3 := hidP (HN2.out.later hb (Nat.le_refl _)); have HB3 : Hid (Below w.heap.size w _) := HB2.out.trans (hb.mono HB2.out.size); have m03 := BM3.out.cell 0 (v := .int .i64 (z : Int)) rfl; have m13 := BM3.out.cell 1 (v := .slice a l.length cap) rfl; have p03 := BP3.out.cell 0 (v := .int .i64 wt) rfl; have p13 := BP3.out.cell 1 (v := .slice pa L.length pc) rfl; clear hb m02 m12))
  go_ret
  exact ⟨rfl, HB3.out⟩
 ·have hn1 : (wt == 1000000001) = false := by simpa using hw
  have hLi : (L.length : Int) < (l.length : Int) := by simp only at hLl; omega
  have hww : (wt != wt) = false := by simp
  have HFA : Hid (flwA ((z : Int), l) (L.map fun i : Nat => (i : Int)) = ((x, y, wt), 0)) := flwA_ok HF.out (by rw [List.length_map]; simp only at hLl; omega) hfl (by simp only; omega)
  have HPD : Hid (pdA l (L.map fun i : Nat => (i : Int)) (z : Int) = wt) := by show _ = _; unfold pdA; rw [hfl]
  have HXY := hidP hxy
  clear hxy hfl hw hLl
  by_cases hx : x.length ≤ 12
  ·have hxi : (x.length : Int) ≤ 12 := by omega
   by_cases hy : y.length ≤ 12
   ·have hyi : (y.length : Int) ≤ 12 := by omega
    have HWX := hidP (HXY.out hx hy).1
    have HWY := hidP (HXY.out hx hy).2.1
    have HCO := hidP (HXY.out hx hy).2.2
    go_wp2_with (first
     | (go_at_call 12; (with_reducible refine (HLC.out _ _ HM2.out).mono ?_); rintro e w3 ⟨rfl, hb⟩; have BM3 := hidP (BM2.out.below hb BM2.out.lt); have BP3 := hidP (BP2.out.below hb BP2.out.lt); have HM3 := hidP (HM2.out.later hb (Nat.le_refl _)); have HN3 := hidP (HN2.out.later hb (Nat.le_refl _)); have HB3 : Hid (Below w.heap.size w _) := HB2.out.trans (hb.mono HB2.out.size); have m03 := BM3.out.cell 0 (v := .int .i64 (z : Int)) rfl; have m13 := BM3.out.cell 1 (v := .slice a l.length cap) rfl; have p03 := BP3.out.cell 0 (v := .int .i64 wt) rfl; have p13 := BP3.out.cell 1 (v := .slice pa L.length pc) rfl; clear hb m02 m12)
     | (go_at_call 15; (with_reducible refine (followP_any _ ((z : Int), l) _ _ _ HM3.out HK.out HN3.out).mono ?_); rintro e w4 ⟨vx, vy, x4, y4, c4, e4, rfl, hfa, hx4, hy4, hb⟩; rw [HFA.out] at hfa; simp only [Prod.mk.injEq] at hfa; obtain ⟨⟨rfl, rfl, rfl⟩, rfl⟩ := hfa; obtain ⟨xa, xc, rfl⟩ := Row.sl hx4; obtain ⟨ya, yc, rfl⟩ := Row.sl hy4; have HX4 := hidP hx4; have HY4 := hidP hy4; have BM4 := hidP (BM3.out.below hb BM3.out.lt); have BP4 := hidP (BP3.out.below hb BP3.out.lt); have HM4 := hidP (HM3.out.later hb (Nat.le_refl _)); have HN4 := hidP (HN3.out.later hb (Nat.le_refl _)); have HB4 : Hid (Below w.heap.size w _) := HB3.out.trans (hb.mono HB3.out.size); have m04 := BM4.out.cell 0 (v := .int .i64 (z : Int)) rfl; have m14 := BM4.out.cell 1 (v := .slice a l.length cap) rfl; have p04 := BP4.out.cell 0 (v := .int .i64 wt) rfl; have p14 := BP4.out.cell 1 (v := .slice pa L.length pc) rfl; clear hx4 hy4 hb m03 m13 p03 p13)
     | (go_at_call 16; (with_reducible refine (paid_any z l a cap _ _ _ HM4.out HF.out HCH.out HN4.out (by rw [List.length_map]; omega)).mono ?_); rintro e w5 ⟨rfl, hb⟩; rw [HPD.out]; have HX5 := hidP (HX4.out.later hb (Nat.le_refl _)); have HY5 := hidP (HY4.out.later hb (Nat.le_refl _)); have BM5 := hidP (BM4.out.below hb BM4.out.lt); have BP5 := hidP (BP4.out.below hb BP4.out.lt); have HM5 := hidP (HM4.out.later hb (Nat.le_refl _)); have HN5 := hidP (HN4.out.later hb (Nat.le_refl _)); have HB5 : Hid (Below w.heap.size w _) := HB4.out.trans (hb.mono HB4.out.size); have m05 := BM5.out.cell 0 (v := .int .i64 (z : Int)) rfl; have m15 := BM5.out.cell 1 (v := .slice a l.length cap) rfl; have p05 := BP5.out.cell 0 (v := .int .i64 wt) rfl; have p15 := BP5.out.cell 1 (v := .slice pa L.length pc) rfl; clear hb m04 m14 p04 p14)
     | (go_at_call 17; (with_reducible refine (cost_any _ _ _ ((z : Int), l) x y _ HM5.out HK.out HF.out HCH.out HX5.out HY5.out HWX.out HWY.out).mono ?_); rintro e w6 ⟨kk, rfl, hq, hb⟩; have hkk := HCO.out kk hq; subst hkk; have HB6 : Hid (Below w.heap.size w _) := HB5.out.trans (hb.mono HB5.out.size); clear hb hq))
    go_ret
    exact ⟨rfl, HB6.out⟩
   ·have hyi : 12 < (y.length : Int) := by omega
    go_wp2_with (first
     | (go_at_call 12; (with_reducible refine (HLC.out _ _ HM2.out).mono ?_); rintro e w3 ⟨rfl, hb⟩; have BM3 := hidP (BM2.out.below hb BM2.out.lt); have BP3 := hidP (BP2.out.below hb BP2.out.lt); have HM3 := hidP (HM2.out.later hb (Nat.le_refl _)); have HN3 := hidP (HN2.out.later hb (Nat.le_refl _)); have HB3 : Hid (Below w.heap.size w _) := HB2.out.trans (hb.mono HB2.out.size); have m03 := BM3.out.cell 0 (v := .int .i64 (z : Int)) rfl; have m13 := BM3.out.cell 1 (v := .slice a l.length cap) rfl; have p03 := BP3.out.cell 0 (v := .int .i64 wt) rfl; have p13 := BP3.out.cell 1 (v := .slice pa L.length pc) rfl; clear hb m02 m12)
     | (go_at_call 15; (with_reducible refine (followP_any _ ((z : Int), l) _ _ _ HM3.out HK.out HN3.out).mono ?_); rintro e w4 ⟨vx, vy, x4, y4, c4, e4, rfl, hfa, hx4, hy4, hb⟩; rw [HFA.out] at hfa; simp only [Prod.mk.injEq] at hfa; obtain ⟨⟨rfl, rfl, rfl⟩, rfl⟩ := hfa; obtain ⟨xa, xc, rfl⟩ := Row.sl hx4; obtain ⟨ya, yc, rfl⟩ := Row.sl hy4; have HX4 := hidP hx4; have HY4 := hidP hy4; have BM4 := hidP (BM3.out.below hb BM3.out.lt); have BP4 := hidP (BP3.out.below hb BP3.out.lt); have HM4 := hidP (HM3.out.later hb (Nat.le_refl _)); have HN4 := hidP (HN3.out.later hb (Nat.le_refl _)); have HB4 : Hid (Below w.heap.size w _) := HB3.out.trans (hb.mono HB3.out.size); have m04 := BM4.out.cell 0 (v := .int .i64 (z : Int)) rfl; have m14 := BM4.out.cell 1 (v := .slice a l.length cap) rfl; have p04 := BP4.out.cell 0 (v := .int .i64 wt) rfl; have p14 := BP4.out.cell 1 (v := .slice pa L.length pc) rfl; clear hx4 hy4 hb m03 m13 p03 p13)
     | (go_at_call 16; (with_reducible refine (paid_any z l a cap _ _ _ HM4.out HF.out HCH.out HN4.out (by rw [List.length_map]; omega)).mono ?_); rintro e w5 ⟨rfl, hb⟩; rw [HPD.out]; have HX5 := hidP (HX4.out.later hb (Nat.le_refl _)); have HY5 := hidP (HY4.out.later hb (Nat.le_refl _)); have BM5 := hidP (BM4.out.below hb BM4.out.lt); have BP5 := hidP (BP4.out.below hb BP4.out.lt); have HM5 := hidP (HM4.out.later hb (Nat.le_refl _)); have HN5 := hidP (HN4.out.later hb (Nat.le_refl _)); have HB5 : Hid (Below w.heap.size w _) := HB4.out.trans (hb.mono HB4.out.size); have m05 := BM5.out.cell 0 (v := .int .i64 (z : Int)) rfl; have m15 := BM5.out.cell 1 (v := .slice a l.length cap) rfl; have p05 := BP5.out.cell 0 (v := .int .i64 wt) rfl; have p15 := BP5.out.cell 1 (v := .slice pa L.length pc) rfl; clear hb m04 m14 p04 p14))
    go_ret
    exact ⟨rfl, HB5.out⟩
  ·have hxi : 12 < (x.length : Int) := by omega
   go_wp2_with (first
    | (go_at_call 12; (with_reducible refine (HLC.out _ _ HM2.out).mono ?_); rintro e w3 ⟨rfl, hb⟩; have BM3 := hidP (BM2.out.below hb BM2.out.lt); have BP3 := hidP (BP2.out.below hb BP2.out.lt); have HM3 := hidP (HM2.out.later hb (Nat.le_refl _)); have HN3 := hidP (HN2.out.later hb (Nat.le_refl _)); have HB3 : Hid (Below w.heap.size w _) := HB2.out.trans (hb.mono HB2.out.size); have m03 := BM3.out.cell 0 (v := .int .i64 (z : Int)) rfl; have m13 := BM3.out.cell 1 (v := .slice a l.length cap) rfl; have p03 := BP3.out.cell 0 (v := .int .i64 wt) rfl; have p13 := BP3.out.cell 1 (v := .slice pa L.length pc) rfl; clear hb m02 m12)
    | (go_at_call 15; (with_reducible refine (followP_any _ ((z : Int), l) _ _ _ HM3.out HK.out HN3.out).mono ?_); rintro e w4 ⟨vx, vy, x4, y4, c4, e4, rfl, hfa, hx4, hy4, hb⟩; rw [HFA.out] at hfa; simp only [Prod.mk.injEq] at hfa; obtain ⟨⟨rfl, rfl, rfl⟩, rfl⟩ := hfa; obtain ⟨xa, xc, rfl⟩ := Row.sl hx4; obtain ⟨ya, yc, rfl⟩ := Row.sl hy4; have HX4 := hidP hx4; have HY4 := hidP hy4; have BM4 := hidP (BM3.out.below hb BM3.out.lt); have BP4 := hidP (BP3.out.below hb BP3.out.lt); have HM4 := hidP (HM3.out.later hb (Nat.le_refl _)); have HN4 := hidP (HN3.out.later hb (Nat.le_refl _)); have HB4 : Hid (Below w.heap.size w _) := HB3.out.trans (hb.mono HB3.out.size); have m04 := BM4.out.cell 0 (v := .int .i64 (z : Int)) rfl; have m14 := BM4.out.cell 1 (v := .slice a l.length cap) rfl; have p04 := BP4.out.cell 0 (v := .int .i64 wt) rfl; have p14 := BP4.out.cell 1 (v := .slice pa L.length pc) rfl; clear hx4 hy4 hb m03 m13 p03 p13)
    | (go_at_call 16; (with_reducible refine (paid_any z l a cap _ _ _ HM4.out HF.out HCH.out HN4.out (by rw [List.length_map]; omega)).mono ?_); rintro e w5 ⟨rfl, hb⟩; rw [HPD.out]; have HX5 := hidP (HX4.out.later hb (Nat.le_refl _)); have HY5 := hidP (HY4.out.later hb (Nat.le_refl _)); have BM5 := hidP (BM4.out.below hb BM4.out.lt); have BP5 := hidP (BP4.out.below hb BP4.out.lt); have HM5 := hidP (HM4.out.later hb (Nat.le_refl _)); have HN5 := hidP (HN4.out.later hb (Nat.le_refl _)); have HB5 : Hid (Below w.heap.size w _) := HB4.out.trans (hb.mono HB4.out.size); have m05 := BM5.out.cell 0 (v := .int .i64 (z : Int)) rfl; have m15 := BM5.out.cell 1 (v := .slice a l.length cap) rfl; have p05 := BP5.out.cell 0 (v := .int .i64 wt) rfl; have p15 := BP5.out.cell 1 (v := .slice pa L.length pc) rfl; clear hb m04 m14 p04 p14))
   go_ret
   exact ⟨rfl, HB5.out⟩
theorem walk (v : Value) (r : Rw) (w : World) (h : RawV w v r ∧ okR r ∧ wfR r) :
 Calls Try.prog 4 #[v] w fun e w' => e = .returned (.bool true) ∧ Below w.heap.size w w' := core v r w h.1 h.2.1 h.2.2
set_option maxRecDepth 100000 in
theorem lifted (os : Os) (started : os.Started) (H : Type) (enc : TypeId × Value → H) :
  ReturnsInHanded {} Try.checked os 4 .any (Rows.bestPaysSpec.pre6 enc Try.prog Try.f4 Rows.bestPaysRow.domain false) (Rows.bestPaysSpec.post enc Try.prog Try.f4 false true false false) := by
 refine returnsInHanded_of_change_sized (C := Try.checked) own started (by kernel_rfl) Try.func4
  (ChangeSpec.witness6 (enc := enc) (C := Try.checked) false ⟨#[], #[.agg #[.int .i64 0, .slice none 0 0]], []⟩ 8 (by kernel_rfl) (by kernel_rfl) (by kernel_rfl) (by kernel_rfl)) ?_
 intro W base args ds gs before hval0 hW hcnd hsz0 _
 have hsz : (DataW.weightsEach Try.prog (Try.f4.params.toList ++ Rows.bestPaysSpec.plain.varTypes Try.prog) (ds ++ gs)).all (· ≤ reachBytes) = true := hsz0
 have hval : ∀ (j : Nat) t v, Try.f4.params[j]? = some t → args[j]? = some v → Value.okWide Try.prog W .any base t v := hval0
 clear hval0 hsz0
 have hW' := hW
 obtain ⟨p, q, hA0, hV, rfl, hfz, hnd⟩ := hW
 have hA : DataW.TrodAll enc Try.prog W 0 (fun _ => true) true Try.f4.params.toList args.toList ds p := hA0
 rw [Try.params4] at hA hval hsz
 obtain ⟨v0, vs0, d0, ds0, p0, q0, hargs, rfl, rfl, h0, r0⟩ := trodAll_cons hA
 obtain ⟨rfl, rfl, rfl⟩ := trodAll_nil r0
 obtain rfl : args = #[v0] := by cases args; simp_all
 obtain ⟨rfl, rfl⟩ := trodVars_none hV
 have k0 := h0
 have lt0 : ∀ x ∈ p0, x.block < W.heap.size := by obtain ⟨m, hm⟩ := k0; exact DataW.trod_lt m _ _ _ hm
 obtain ⟨z0, w0⟩ : ∃ m : Rw, RawV W v0 m ∧ okR m ∧ wfR m := by
  obtain ⟨c0, c1, y0, y1, n, rfl, hd, hp, t0, t1⟩ := Go.Joins.open_agg2 Try.underlying24 (by kernel_rfl) (by kernel_rfl) (hval 0 24 v0 rfl rfl) h0
  subst hd
  exact open_raw t0 t1 ((Fits.arg hsz (j := 0) rfl rfl).field Try.underlying24 (f := 1) rfl rfl)
 refine (walk v0 z0 W w0).mono fun e W' ⟨he, bel⟩ => ?_
 subst he
 exact ⟨_, rfl, _, _, _, [], _, [], hW', trodAll_mk1 (shut_bool Try.underlying4 _), (trodAll_cons_mk (Below.trod laidOut (by kernel_rfl) (of_decide_eq_true (by kernel_rfl)) k0 bel lt0) trodAll_mk0), rfl, bel.frame _, fun h => by cases h⟩
end Go.Proofs.Ytfpibdaedfilaaa.bestPays
namespace Go.Proofs.Ytfpibdaedfilaaa
theorem bestPays_holds : Rows.BestPaysSaid :=
 OpenClaim.holds_of_wide 4 Try.f4 rfl rfl rfl rfl rfl rfl rfl ⟨rfl, rfl, rfl, rfl, rfl⟩ rfl rfl rfl rfl rfl (by kernel_rfl) Try.func4 (by kernel_rfl)
  (of_decide_eq_true (by kernel_rfl)) (by unfold Func.isWrapper; first | (rw [if_pos (by decide +kernel)]; kernel_rfl) | (rw [if_neg (by decide +kernel)]; exact ⟨rfl, rfl⟩))
  (fun os started H enc _ => bestPays.lifted os started H enc)
#print axioms bestPays_holds
end Go.Proofs.Ytfpibdaedfilaaa
