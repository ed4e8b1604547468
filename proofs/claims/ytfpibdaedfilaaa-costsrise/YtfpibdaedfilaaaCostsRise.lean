/- The statement CostsRise: costs rise, the first one is the best path's, and of fewer paths they are the first ones, for every input and without any condition. -/
import Derived.Test.YtfpibdaedfilaaaFac
import Derived.Test.YtfpibdaedfilaaaFak
import Derived.Test.YtfpibdaedfilaaaFas
import Derived.Test.YtfpibdaedfilaaaFab
import Derived.Test.YtfpibdaedfilaaaFai
import Derived.Lib.SmallJoins
import Derived.ChangeOld
import Derived.Below
import Derived.Deep.QuietTactic
import Derived.BigQuiet
namespace Go.Proofs.Ytfpibdaedfilaaa.costsRise
open Go.ChangeShapes Go.WideShapes Go.ChangeAt Go.RowKit
open Go.Proofs.Ytfpibdaedfilaaa.Pl Go.Proofs.Ytfpibdaedfilaaa.Wt
set_option linter.unusedVariables false
set_option linter.unusedSimpArgs false
theorem own : ownKnob Try.prog.godebug = none := by kernel_rfl
theorem laidOut : laidOutB Try.prog = true := by kernel_rfl
theorem cost_res {v : Value} {m : Mc} {n : Int} {w : World} (hr : faultM m = 0) (hc : CheapL m.2) (hz : 0 ≤ m.1) (hl : m.2.length ≤ 20) (hn0 : 0 ≤ n) (hn : n ≤ 20) (h : Mach w v m) :
  Calls Try.prog 11 #[v, .int .i64 n] w fun e w' => ∃ vr L, e = .returned (.tuple #[vr, .int .i64 0]) ∧ CheapN m.2 m.1.toNat n.toNat L ∧ Nums w' vr L ∧ Below w.heap.size w w' := by
 refine (Bw.costP_any v m n w h (right_ok hr)).mono ?_
 rintro e w' ⟨vr, L, ec, rfl, hA, hN, hb⟩
 obtain ⟨rfl, hC⟩ := cost_made hr hc hz hl hn0 hn hA
 exact ⟨vr, L, rfl, hC, hN, hb⟩
theorem nums_at {w : World} {a : Option Addr} {n c : Nat} {L : List Int} (h : Nums w (.slice a n c) L) (hl : L.length = n) : ∀ j, j < n → ∃ b off, a = some ⟨b, off, none⟩ ∧ b < w.heap.size ∧ w.cell? ⟨b, off + j, none⟩ = some (.int .i64 (el L j)) := by
 obtain ⟨a', c', e, g⟩ := h.get
 simp only [Value.slice.injEq] at e
 obtain ⟨rfl, _, _⟩ := e
 rw [hl] at g
 exact g
theorem rise_split {lb la k : Nat} {x : Int} {ab : Option Addr} {w : World} {B : List Int} (GB : ∀ j, j < lb → ∃ b off, ab = some ⟨b, off, none⟩ ∧ b < w.heap.size ∧ w.cell? ⟨b, off + j, none⟩ = some (.int .i64 (el B j))) (hl : B.length = lb) (hBx : (B = [] ∧ x = 1000000001) ∨ (0 < lb ∧ x ≠ 1000000001 ∧ el B 0 = x)) (hAl : la = min k lb) :
  (lb = 0 ∧ la = 0 ∧ x = 1000000001) ∨ (∃ bb ob, ab = some ⟨bb, ob, none⟩ ∧ bb < w.heap.size ∧ w.cell? ⟨bb, ob, none⟩ = some (.int .i64 x) ∧ (x == 1000000001) = false ∧ ((lb : Int) == 0) = false ∧ (0 : Int) < (lb : Int) ∧ ((lb : Int) == (la : Int) + 1) = true ∧ (k : Int) ≤ (la : Int)) ∨ (∃ bb ob, ab = some ⟨bb, ob, none⟩ ∧ bb < w.heap.size ∧ w.cell? ⟨bb, ob, none⟩ = some (.int .i64 x) ∧ (x == 1000000001) = false ∧ ((lb : Int) == 0) = false ∧ (0 : Int) < (lb : Int) ∧ ((lb : Int) == (la : Int) + 1) = false) := by
 rcases hBx with ⟨h1, h2⟩ | ⟨h1, h2, h3⟩
 ·rw [h1] at hl
  simp at hl
  exact .inl ⟨by omega, by omega, h2⟩
 ·obtain ⟨bb, ob, hab, hb, e0⟩ := GB 0 h1
  rw [Nat.add_zero, h3] at e0
  have y1 : (x == 1000000001) = false := by simpa using h2
  have y2 : ((lb : Int) == 0) = false := by simp; omega
  by_cases h5 : lb = la + 1
  ·exact .inr (.inl ⟨bb, ob, hab, hb, e0, y1, y2, by omega, by simp; omega, by omega⟩)
  ·exact .inr (.inr ⟨bb, ob, hab, hb, e0, y1, y2, by omega, by simp; omega⟩)
theorem addrC {b b' o o' : Nat} (h : (some ⟨b, o, none⟩ : Option Addr) = some ⟨b', o', none⟩) : b = b' ∧ o = o' := by
 simp at h
 exact h
theorem el_takeC {L : List Int} {k i : Nat} (h : i < k) : el (L.take k) i = el L i := by
 simp [el, List.getElem?_take, h]
def HeldC3 (p1 p2 p3 : Addr) (v1 v2 v3 : Value) (w : World) : Prop := w.cell? p1 = some v1 ∧ w.cell? p2 = some v2 ∧ w.cell? p3 = some v3
set_option maxRecDepth 100000 in
set_option maxHeartbeats 9600000 in
theorem core (vx : Value) (rx : Rw) (p : Int) (w : World) (hx : RawV w vx rx ∧ okR rx ∧ wfR rx) (hp : (Lit.int .i64 p).wf = true) :
  Calls Try.prog 6 #[vx, .int .i64 p] w fun e w' => e = .returned (.bool true) ∧ Below w.heap.size w w' := by
 obtain ⟨hx, hokx, hwfx⟩ := hx
 have HIx : Hid (RawV w vx rx) := hx
 have HOKx : Hid (okR rx) := hokx
 have HWFx : Hid (wfR rx) := hwfx
 have HPW := hidP hp
 obtain ⟨hfx, hcx, hlx, hax, hpx⟩ := made_facts rx 6 (by omega) (by omega)
 have HEx : Hid (∀ v W, RawV W v rx → okR rx → wfR rx → Calls Try.prog 13 #[v, .int .i64 6, .bool false] W fun e w' => ∃ v', e = .returned v' ∧ Mach w' v' (madeM rx 6 false) ∧ Below W.heap.size W w') := fun v W h1 h2 h3 => made_any v rx 6 false W h1 h2 h3 (by omega) (by omega)
 obtain ⟨vs0x, rfl, hNx⟩ := hx
 obtain ⟨a0x, c0x, rfl, hNxx⟩ := hNx.get
 clear hNx hNxx hokx hwfx
 have hz := made_start rx 6 false (by omega)
 have hst := start_lt hfx
 obtain ⟨k, hk⟩ : ∃ k : Nat, pkR p 20 = (k : Int) := ⟨(pkR p 20).toNat, by have := (pkR_bd p 20 (by omega)).1; omega⟩
 have hk20 : k < 20 := by have := (pkR_bd p 20 (by omega)).2; omega
 have HPK := hidP hk
 have HCn : Hid (∀ W v, Mach W v (madeM rx 6 false) → Calls Try.prog 12 #[v] W fun e w' => ∃ x : Int, e = .returned (.tuple #[.int .i64 x, .int .i64 0]) ∧ CstIs (EndC (madeM rx 6 false).2 (madeM rx 6 false).1.toNat) x ∧ Below W.heap.size W w') := fun W v h1 => least_cst v _ W h1 hfx hcx hz
 have HC1 : Hid (∀ W v, Mach W v (madeM rx 6 false) → Calls Try.prog 11 #[v, .int .i64 (k : Int)] W fun e w' => ∃ vr L, e = .returned (.tuple #[vr, .int .i64 0]) ∧ CheapN (madeM rx 6 false).2 (madeM rx 6 false).1.toNat k L ∧ Nums w' vr L ∧ Below W.heap.size W w') := fun W v h1 => cost_res hfx hcx hz (by omega) (by omega) (by omega) h1
 have HC2 : Hid (∀ W v, Mach W v (madeM rx 6 false) → Calls Try.prog 11 #[v, .int .i64 ((k : Int) + 1)] W fun e w' => ∃ vr L, e = .returned (.tuple #[vr, .int .i64 0]) ∧ CheapN (madeM rx 6 false).2 (madeM rx 6 false).1.toNat (k + 1) L ∧ Nums w' vr L ∧ Below W.heap.size W w') := fun W v h1 => by
  have h9 := cost_res (w := W) (n := (k : Int) + 1) hfx hcx hz (by omega) (by omega) (by omega) h1
  rw [show ((k : Int) + 1).toNat = k + 1 by omega] at h9
  exact h9
 have HAB : Hid (∀ A B : List Int, ∀ x, CheapN (madeM rx 6 false).2 (madeM rx 6 false).1.toNat k A → CheapN (madeM rx 6 false).2 (madeM rx 6 false).1.toNat (k + 1) B → CstIs (EndC (madeM rx 6 false).2 (madeM rx 6 false).1.toNat) x → A = B.take k ∧ B.length ≤ k + 1 ∧ RisL B ∧ ((B = [] ∧ x = 1000000001) ∨ (0 < B.length ∧ x ≠ 1000000001 ∧ el B 0 = x))) := fun A B x hA hB hX => ⟨hA.one (hB.cut (RgtL.of hfx) (by omega)), hB.len, hB.ris, cheap_least (RgtL.of hfx) (by omega) (by omega) hB hX⟩
 clear hfx hcx hax hpx hlx hz hst hk hp
 generalize madeM rx 6 false = Mx at *
 have HB0 : Hid (∀ o1, Below w.heap.size w (w.alloc o1)) := fun o1 => (Below.refl _ _).alloc (Nat.le_refl _) _
 go_enter Try.func6, Try.ntmps6
 go_wp2_with (first
  | (go_at_call 13; (with_reducible refine (HEx.out _ _ (HIx.out.later (HB0.out _) (Nat.le_refl _)) HOKx.out HWFx.out).mono ?_); rintro e w1 ⟨v1, rfl, hm, hb⟩; have HMx : Hid (Mach w1 v1 (Mx)) := hm; obtain ⟨vsx, rfl, hSx⟩ := hm; obtain ⟨ax, cx, rfl⟩ := hSx.sl; clear hSx; obtain ⟨s1, bb0, hb1⟩ := boxed hb (by simp); clear bb0; have HB1 := hidP hb1; clear hb hb1)
  | (go_at_call 19; (with_reducible refine (picked_R _ _ _ HPW.out (by omega) (by omega) _ HPK.out).mono ?_); rintro e w' ⟨rfl, rfl⟩)
  | (go_at_call 11; (with_reducible refine (HC1.out _ _ (HMx.out.later ((Below.refl _ _).alloc (Nat.le_refl _) _) (Nat.le_refl _))).mono ?_); rintro e w2 ⟨va, A, rfl, hq, hn, hb⟩; have HQA := hidP hq; have HNA := hidP hn; obtain ⟨aa, ca, rfl⟩ := Row.sl hn; obtain ⟨s2, bb0, hb2⟩ := boxed hb (by simp); have KV2 := hidP bb0; have HB2 := hidP (HB1.out.trans (hb2.mono HB1.out.size)); have Hx2 := hidP hb2; have q0 := bb0.cell 0 (v := .int .i64 Mx.1) rfl; have q1 := bb0.cell 1 (v := .slice ax Mx.2.length cx) rfl; clear bb0 hq hn hb hb2)
  | (go_at_call 11; (with_reducible refine (HC2.out _ _ (HMx.out.later Hx2.out (Nat.le_refl _))).mono ?_); rintro e w3 ⟨vb, B, rfl, hq, hn, hb⟩; have HQB := hidP hq; have HNB := hidP hn; obtain ⟨ab, cb, rfl⟩ := Row.sl hn; have KV3 := hidP (KV2.out.below hb KV2.out.lt); have HB3 := hidP (HB2.out.trans (hb.mono HB2.out.size)); have Hx3 := hidP (Hx2.out.trans (hb.mono Hx2.out.size)); have HNA3 := hidP (HNA.out.later hb (Nat.le_refl _)); have p0 := KV3.out.cell 0 (v := .int .i64 Mx.1) rfl; have p1 := KV3.out.cell 1 (v := .slice ax Mx.2.length cx) rfl; clear hq hn hb)
  | (go_at_call 12; go_loud ((with_reducible refine (HCn.out _ _ (HMx.out.later Hx3.out (Nat.le_refl _))).mono ?_); rintro e w4 ⟨x, rfl, hq, hb⟩; have HB4 := hidP (HB3.out.trans (hb.mono HB3.out.size)); have HA4 := hidP (HNA3.out.later hb (Nat.le_refl _)); have HB4n := hidP (HNB.out.later hb (Nat.le_refl _)); obtain ⟨hAB, hBl, hBr, hBx⟩ := HAB.out A B x HQA.out HQB.out hq; have HBR := hidP hBr; have HAT := hidP hAB; have hAl : A.length = min k B.length := (by rw [hAB, List.length_take]); clear hq hb hAB hBr HQA HQB; obtain ⟨la, hla⟩ : ∃ la, A.length = la := ⟨_, rfl⟩; obtain ⟨lb, hlb⟩ : ∃ lb, B.length = lb := ⟨_, rfl⟩; rw [hla, hlb] at hAl; rw [hlb] at hBl hBx; rw [hla]; rw [hlb]; have GA := hidP (by have h9 := HA4.out; rw [hla] at h9; exact nums_at h9 hla); have GB := hidP (by have h9 := HB4n.out; rw [hlb] at h9; exact nums_at h9 hlb); have HLB := hidP hlb; clear hla hlb HA4 HB4n; have z1 : (la : Int) ≤ (k : Int) := (by omega); have z2 : (lb : Int) ≤ (k : Int) + 1 := (by omega); have z3 : (la : Int) ≤ (lb : Int) := (by omega); have z4 : (lb : Int) ≤ (la : Int) + 1 := (by omega); have HSP := rise_split GB.out HLB.out hBx hAl; have HAL := hidP hAl; have hlk : la ≤ k := (by omega); clear hAl hBx; rcases HSP with ⟨rfl, rfl, rfl⟩ | ⟨bb, ob, rfl, hbbl, e0, y1, y2, y3, y4, y5⟩ | ⟨bb, ob, rfl, hbbl, e0, y1, y2, y3, y4⟩)))
 ·have n0 : ((0 : Nat) : Int) ≤ ((0 : Nat) : Int) := by omega
  have n1 : ((0 : Nat) : Int) ≤ (0 : Int) := by omega
  go_loopw [13] (fun s wr => s = .int .i64 0 ∧ Hid (Below w4.heap.size w4 wr)) (fun _ _ => 0)
  case atStart => exact ⟨rfl, Below.refl _ _⟩
  case round =>
   obtain ⟨rfl, hbw⟩ := hrel
   go_wp2
   go_ret
   exact ⟨rfl, HB4.out.trans (hbw.out.mono HB4.out.size)⟩
 ·clear q0 q1 p0 p1 z1 z2 z3 z4 y1 y2 y3 y4 e0 hbbl
  go_loopw [13] (fun s wr => ∃ i : Nat, i ≤ lb ∧ s = .int .i64 (i : Int) ∧ Hid (Below w4.heap.size w4 wr)) (fun s _ => lb - (intOf s).toNat)
  case atStart => exact ⟨0, Nat.zero_le _, rfl, Below.refl _ _⟩
  case round =>
   obtain ⟨i, hi, rfl, hbw⟩ := hrel
   by_cases hlt : i < lb
   ·obtain ⟨b1, o1, hal, hb1, c1⟩ := GB.out i hlt
    have hal := addrC hal
    obtain ⟨rfl, rfl⟩ := hal
    have c1 := (hbw.out.cell (p := ⟨bb, ob + i, none⟩) hb1).trans c1
    have k0 : (0 : Int) ≤ (i : Int) := by omega
    have k1 : (i : Int) < (lb : Int) := by omega
    have k2 : (i : Int) ≤ 20 := by omega
    by_cases hia : i < la
    ·obtain ⟨b2, o2, rfl, hb2, c2⟩ := GA.out i hia
     have c2 := (hbw.out.cell (p := ⟨b2, o2 + i, none⟩) hb2).trans c2
     rw [HAT.out, el_takeC (by omega)] at c2
     have d1 : (i : Int) < (la : Int) := by omega
     have HX1 : Hid (el B i = el B i) := rfl
     by_cases hi0 : i = 0
     ·have d2 : (i : Int) ≤ (0 : Int) := by omega
      have HI0 := hidP hi0
      generalize el B i = x1 at *
      have d3 : (x1 != x1) = false := by simp
      clear hi0 hb1 hb2 HX1
      have D1 : decide ((i : Int) < (la : Int)) = true := decide_eq_true d1
      have D3 : (x1 != x1) = false := by simp
      have D2 : decide ((0 : Int) < (i : Int)) = false := decide_eq_false (by omega)
      have D2n : decide (0 < i) = false := decide_eq_false (by omega)
      go_wp2
      have HS : HeldC3 ⟨bb, ob + i, none⟩ ⟨b2, o2 + i, none⟩ ⟨bb, ob + i, none⟩ (.int .i64 x1) (.int .i64 x1) (.int .i64 x1) wr.drew := ⟨c1, c2, c1⟩
      refine region_anyL (HeldC3 ⟨bb, ob + i, none⟩ ⟨b2, o2 + i, none⟩ ⟨bb, ob + i, none⟩ (.int .i64 x1) (.int .i64 x1) (.int .i64 x1)) 200 (by kernel_rfl) ?_
      have HBd : Hid (Below w4.heap.size w4 wr.drew) := hbw.out.drew
      generalize wr.drew = wd at *
      refine anyL_tk (i := 0) (v := ?v0_1) aZ0 (by kernel_rfl) ?y0_1 HS ?r0_1
      case y0_1 => intro wx hx; obtain ⟨h0, h1, h2⟩ := hx; go_simp; try (with_reducible rfl)
      simp only [Act.put, List.setIfInBounds_toArray, List.set_cons_zero, List.set_cons_succ]
      refine anyL_tk (i := 1) (v := ?v1_2) aZ1 (by kernel_rfl) ?y1_2 HS ?r1_2
      case y1_2 => intro wx hx; obtain ⟨h0, h1, h2⟩ := hx; go_simp; try (with_reducible rfl)
      simp only [Act.put, List.setIfInBounds_toArray, List.set_cons_zero, List.set_cons_succ]
      refine anyL_tk (i := 2) (v := ?v2_3) aZ2 (by kernel_rfl) ?y2_3 HS ?r2_3
      case y2_3 => intro wx hx; obtain ⟨h0, h1, h2⟩ := hx; go_simp; try (with_reducible rfl)
      simp only [Act.put, List.setIfInBounds_toArray, List.set_cons_zero, List.set_cons_succ]
      refine anyL_tk (i := 3) (v := ?v3_4) aZ3 (by kernel_rfl) ?y3_4 HS ?r3_4
      case y3_4 => intro wx hx; obtain ⟨h0, h1, h2⟩ := hx; go_simp; try (with_reducible rfl)
      simp only [Act.put, List.setIfInBounds_toArray, List.set_cons_zero, List.set_cons_succ]
      try simp only [D1]
      refine anyL_tk (i := 4) (v := ?v4_5) aZ4 (by kernel_rfl) ?y4_5 HS ?r4_5
      case y4_5 => intro wx hx; obtain ⟨h0, h1, h2⟩ := hx; go_simp; try (with_reducible rfl)
      simp only [Act.put, List.setIfInBounds_toArray, List.set_cons_zero, List.set_cons_succ]
      refine anyL_tg (i := 5) (v := ?v5_65) aZ5 (by kernel_rfl) ?y5_65 HS ?r5_65
      case y5_65 => intro wx hx; obtain ⟨h0, h1, h2⟩ := hx; go_simp; try (with_reducible rfl)
      simp only [Act.put, List.setIfInBounds_toArray, List.set_cons_zero, List.set_cons_succ]
      refine anyL_tg (i := 6) (v := ?v6_66) aZ6 (by kernel_rfl) ?y6_66 HS ?r6_66
      case y6_66 => intro wx hx; obtain ⟨h0, h1, h2⟩ := hx; go_simp; try (with_reducible rfl)
      simp only [Act.put, List.setIfInBounds_toArray, List.set_cons_zero, List.set_cons_succ]
      refine anyL_tg (i := 7) (v := ?v7_67) aZ7 (by kernel_rfl) ?y7_67 HS ?r7_67
      case y7_67 => intro wx hx; obtain ⟨h0, h1, h2⟩ := hx; go_simp; try (with_reducible rfl)
      simp only [Act.put, List.setIfInBounds_toArray, List.set_cons_zero, List.set_cons_succ]
      refine anyL_tg (i := 8) (v := ?v8_68) aZ8 (by kernel_rfl) ?y8_68 HS ?r8_68
      case y8_68 => intro wx hx; obtain ⟨h0, h1, h2⟩ := hx; go_simp; try (with_reducible rfl)
      simp only [Act.put, List.setIfInBounds_toArray, List.set_cons_zero, List.set_cons_succ]
      refine anyL_tg (i := 9) (v := ?v9_69) aZ9 (by kernel_rfl) ?y9_69 HS ?r9_69
      case y9_69 => intro wx hx; obtain ⟨h0, h1, h2⟩ := hx; go_simp; try (with_reducible rfl)
      simp only [Act.put, List.setIfInBounds_toArray, List.set_cons_zero, List.set_cons_succ]
      refine anyL_tg (i := 10) (v := ?v10_70) aZ10 (by kernel_rfl) ?y10_70 HS ?r10_70
      case y10_70 => intro wx hx; obtain ⟨h0, h1, h2⟩ := hx; go_simp; try (with_reducible rfl)
      simp only [Act.put, List.setIfInBounds_toArray, List.set_cons_zero, List.set_cons_succ]
      refine anyL_tg (i := 11) (v := ?v11_71) aZ11 (by kernel_rfl) ?y11_71 HS ?r11_71
      case y11_71 => intro wx hx; obtain ⟨h0, h1, h2⟩ := hx; go_simp; try (with_reducible rfl)
      simp only [Act.put, List.setIfInBounds_toArray, List.set_cons_zero, List.set_cons_succ]
      refine anyL_tg (i := 12) (v := ?v12_72) aZ12 (by kernel_rfl) ?y12_72 HS ?r12_72
      case y12_72 => intro wx hx; obtain ⟨h0, h1, h2⟩ := hx; go_simp; try (with_reducible rfl)
      simp only [Act.put, List.setIfInBounds_toArray, List.set_cons_zero, List.set_cons_succ]
      refine anyL_tg (i := 13) (v := ?v13_73) aZ13 (by kernel_rfl) ?y13_73 HS ?r13_73
      case y13_73 => intro wx hx; obtain ⟨h0, h1, h2⟩ := hx; go_simp; try (with_reducible rfl)
      simp only [Act.put, List.setIfInBounds_toArray, List.set_cons_zero, List.set_cons_succ]
      try simp only [D3]
      refine anyL_tk (i := 14) (v := ?v14_6) aZ14 (by kernel_rfl) ?y14_6 HS ?r14_6
      case y14_6 => intro wx hx; obtain ⟨h0, h1, h2⟩ := hx; go_simp; try (with_reducible rfl)
      simp only [Act.put, List.setIfInBounds_toArray, List.set_cons_zero, List.set_cons_succ]
      refine anyL_tk (i := 15) (v := ?v15_7) aZ15 (by kernel_rfl) ?y15_7 HS ?r15_7
      case y15_7 => intro wx hx; obtain ⟨h0, h1, h2⟩ := hx; go_simp; try (with_reducible rfl)
      simp only [Act.put, List.setIfInBounds_toArray, List.set_cons_zero, List.set_cons_succ]
      refine anyL_tg (i := 16) (v := ?v16_74) aZ16 (by kernel_rfl) ?y16_74 HS ?r16_74
      case y16_74 => intro wx hx; obtain ⟨h0, h1, h2⟩ := hx; go_simp; try (with_reducible rfl)
      simp only [Act.put, List.setIfInBounds_toArray, List.set_cons_zero, List.set_cons_succ]
      refine anyL_tg (i := 17) (v := ?v17_75) aZ17 (by kernel_rfl) ?y17_75 HS ?r17_75
      case y17_75 => intro wx hx; obtain ⟨h0, h1, h2⟩ := hx; go_simp; try (with_reducible rfl)
      simp only [Act.put, List.setIfInBounds_toArray, List.set_cons_zero, List.set_cons_succ]
      try simp only [D2, D2n]
      refine anyL_tg (i := 18) (v := ?v18_76) aZ18 (by kernel_rfl) ?y18_76 HS ?r18_76
      case y18_76 => intro wx hx; obtain ⟨h0, h1, h2⟩ := hx; go_simp; try (with_reducible rfl)
      simp only [Act.put, List.setIfInBounds_toArray, List.set_cons_zero, List.set_cons_succ]
      refine anyL_skip (i := 19) aZ19 (by kernel_rfl) (by kernel_rfl) (by kernel_rfl) (by kernel_rfl) (fun _ _ _ h => h) (by rfl) HS ?_
      try simp only [Act.put, List.setIfInBounds_toArray, List.set_cons_zero, List.set_cons_succ]
      refine anyL_skip (i := 20) aZ20 (by kernel_rfl) (by kernel_rfl) (by kernel_rfl) (by kernel_rfl) (fun _ _ _ h => h) (by rfl) HS ?_
      try simp only [Act.put, List.setIfInBounds_toArray, List.set_cons_zero, List.set_cons_succ]
      refine anyL_skip (i := 21) aZ21 (by kernel_rfl) (by kernel_rfl) (by kernel_rfl) (by kernel_rfl) (fun _ _ _ h => h) (by rfl) HS ?_
      try simp only [Act.put, List.setIfInBounds_toArray, List.set_cons_zero, List.set_cons_succ]
      refine anyL_skip (i := 22) aZ22 (by kernel_rfl) (by kernel_rfl) (by kernel_rfl) (by kernel_rfl) (fun _ _ _ h => h) (by rfl) HS ?_
      try simp only [Act.put, List.setIfInBounds_toArray, List.set_cons_zero, List.set_cons_succ]
      refine anyL_skip (i := 23) aZ23 (by kernel_rfl) (by kernel_rfl) (by kernel_rfl) (by kernel_rfl) (fun _ _ _ h => h) (by rfl) HS ?_
      try simp only [Act.put, List.setIfInBounds_toArray, List.set_cons_zero, List.set_cons_succ]
      refine anyL_skip (i := 24) aZ24 (by kernel_rfl) (by kernel_rfl) (by kernel_rfl) (by kernel_rfl) (fun _ _ _ h => h) (by rfl) HS ?_
      try simp only [Act.put, List.setIfInBounds_toArray, List.set_cons_zero, List.set_cons_succ]
      refine anyL_skip (i := 25) aZ25 (by kernel_rfl) (by kernel_rfl) (by kernel_rfl) (by kernel_rfl) (fun _ _ _ h => h) (by rfl) HS ?_
      try simp only [Act.put, List.setIfInBounds_toArray, List.set_cons_zero, List.set_cons_succ]
      refine anyL_skip (i := 26) aZ26 (by kernel_rfl) (by kernel_rfl) (by kernel_rfl) (by kernel_rfl) (fun _ _ _ h => h) (by rfl) HS ?_
      try simp only [Act.put, List.setIfInBounds_toArray, List.set_cons_zero, List.set_cons_succ]
      refine anyL_skip (i := 27) aZ27 (by kernel_rfl) (by kernel_rfl) (by kernel_rfl) (by kernel_rfl) (fun _ _ _ h => h) (by rfl) HS ?_
      try simp only [Act.put, List.setIfInBounds_toArray, List.set_cons_zero, List.set_cons_succ]
      refine anyL_skip (i := 28) aZ28 (by kernel_rfl) (by kernel_rfl) (by kernel_rfl) (by kernel_rfl) (fun _ _ _ h => h) (by rfl) HS ?_
      try simp only [Act.put, List.setIfInBounds_toArray, List.set_cons_zero, List.set_cons_succ]
      refine anyL_tg (i := 29) (v := ?v29_77) aZ29 (by kernel_rfl) ?y29_77 HS ?r29_77
      case y29_77 => intro wx hx; obtain ⟨h0, h1, h2⟩ := hx; go_simp; try (with_reducible rfl)
      simp only [Act.put, List.setIfInBounds_toArray, List.set_cons_zero, List.set_cons_succ]
      refine anyL_tk (i := 30) (v := ?v30_8) aZ30 (by kernel_rfl) ?y30_8 HS ?r30_8
      case y30_8 => intro wx hx; obtain ⟨h0, h1, h2⟩ := hx; go_simp; try (with_reducible rfl)
      simp only [Act.put, List.setIfInBounds_toArray, List.set_cons_zero, List.set_cons_succ]
      refine anyL_done (by kernel_rfl) (NoPanic.normal ?_)
      try simp only [Act.put, List.setIfInBounds_toArray, List.set_cons_zero, List.set_cons_succ]
      clear HS
      go_wp2
      go_roundw
      case rel => exact ⟨i + 1, by omega, by go_num, HBd.out⟩
      case measure => simp [intOf]; omega
     ·obtain ⟨j, hj⟩ : ∃ j, i = j + 1 := ⟨i - 1, by omega⟩
      have d2 : (0 : Int) < (i : Int) := by omega
      obtain ⟨b3, o3, hal, hb3, c3⟩ := GB.out j (by omega)
      have hal := addrC hal
      obtain ⟨rfl, rfl⟩ := hal
      have c3 := (hbw.out.cell (p := ⟨bb, ob + j, none⟩) hb3).trans c3
      have k5 : IntKind.i64.wrap ((i : Int) - 1) = (j : Int) := by rw [wrapI (by omega) (by omega)]; omega
      have k6 : (0 : Int) ≤ (j : Int) := by omega
      have k7 : (j : Int) < (lb : Int) := by omega
      have d4 := ris_step HBR.out (i := j) (by rw [HLB.out]; omega)
      rw [← hj] at d4
      have HJ := hidP hj
      generalize el B i = x1 at *
      generalize el B j = x2 at *
      have d3 : (x1 != x1) = false := by simp
      have d5 : x2 ≤ x1 := d4
      clear hi0 hb1 hb2 hb3 HX1 hj d4
      have D1 : decide ((i : Int) < (la : Int)) = true := decide_eq_true d1
      have D3 : (x1 != x1) = false := by simp
      have D2 : decide ((0 : Int) < (i : Int)) = true := decide_eq_true d2
      have D2n : decide (0 < i) = true := decide_eq_true (by omega)
      have D5 : decide (x1 < x2) = false := decide_eq_false (by omega)
      go_wp2
      have HS : HeldC3 ⟨bb, ob + i, none⟩ ⟨b2, o2 + i, none⟩ ⟨bb, ob + j, none⟩ (.int .i64 x1) (.int .i64 x1) (.int .i64 x2) wr.drew := ⟨c1, c2, c3⟩
      refine region_anyL (HeldC3 ⟨bb, ob + i, none⟩ ⟨b2, o2 + i, none⟩ ⟨bb, ob + j, none⟩ (.int .i64 x1) (.int .i64 x1) (.int .i64 x2)) 200 (by kernel_rfl) ?_
      have HBd : Hid (Below w4.heap.size w4 wr.drew) := hbw.out.drew
      generalize wr.drew = wd at *
      refine anyL_tk (i := 0) (v := ?v0_9) aZ0 (by kernel_rfl) ?y0_9 HS ?r0_9
      case y0_9 => intro wx hx; obtain ⟨h0, h1, h2⟩ := hx; go_simp; try (with_reducible rfl)
      simp only [Act.put, List.setIfInBounds_toArray, List.set_cons_zero, List.set_cons_succ]
      refine anyL_tk (i := 1) (v := ?v1_10) aZ1 (by kernel_rfl) ?y1_10 HS ?r1_10
      case y1_10 => intro wx hx; obtain ⟨h0, h1, h2⟩ := hx; go_simp; try (with_reducible rfl)
      simp only [Act.put, List.setIfInBounds_toArray, List.set_cons_zero, List.set_cons_succ]
      refine anyL_tk (i := 2) (v := ?v2_11) aZ2 (by kernel_rfl) ?y2_11 HS ?r2_11
      case y2_11 => intro wx hx; obtain ⟨h0, h1, h2⟩ := hx; go_simp; try (with_reducible rfl)
      simp only [Act.put, List.setIfInBounds_toArray, List.set_cons_zero, List.set_cons_succ]
      refine anyL_tk (i := 3) (v := ?v3_12) aZ3 (by kernel_rfl) ?y3_12 HS ?r3_12
      case y3_12 => intro wx hx; obtain ⟨h0, h1, h2⟩ := hx; go_simp; try (with_reducible rfl)
      simp only [Act.put, List.setIfInBounds_toArray, List.set_cons_zero, List.set_cons_succ]
      try simp only [D1]
      refine anyL_tk (i := 4) (v := ?v4_13) aZ4 (by kernel_rfl) ?y4_13 HS ?r4_13
      case y4_13 => intro wx hx; obtain ⟨h0, h1, h2⟩ := hx; go_simp; try (with_reducible rfl)
      simp only [Act.put, List.setIfInBounds_toArray, List.set_cons_zero, List.set_cons_succ]
      refine anyL_tg (i := 5) (v := ?v5_78) aZ5 (by kernel_rfl) ?y5_78 HS ?r5_78
      case y5_78 => intro wx hx; obtain ⟨h0, h1, h2⟩ := hx; go_simp; try (with_reducible rfl)
      simp only [Act.put, List.setIfInBounds_toArray, List.set_cons_zero, List.set_cons_succ]
      refine anyL_tg (i := 6) (v := ?v6_79) aZ6 (by kernel_rfl) ?y6_79 HS ?r6_79
      case y6_79 => intro wx hx; obtain ⟨h0, h1, h2⟩ := hx; go_simp; try (with_reducible rfl)
      simp only [Act.put, List.setIfInBounds_toArray, List.set_cons_zero, List.set_cons_succ]
      refine anyL_tg (i := 7) (v := ?v7_80) aZ7 (by kernel_rfl) ?y7_80 HS ?r7_80
      case y7_80 => intro wx hx; obtain ⟨h0, h1, h2⟩ := hx; go_simp; try (with_reducible rfl)
      simp only [Act.put, List.setIfInBounds_toArray, List.set_cons_zero, List.set_cons_succ]
      refine anyL_tg (i := 8) (v := ?v8_81) aZ8 (by kernel_rfl) ?y8_81 HS ?r8_81
      case y8_81 => intro wx hx; obtain ⟨h0, h1, h2⟩ := hx; go_simp; try (with_reducible rfl)
      simp only [Act.put, List.setIfInBounds_toArray, List.set_cons_zero, List.set_cons_succ]
      refine anyL_tg (i := 9) (v := ?v9_82) aZ9 (by kernel_rfl) ?y9_82 HS ?r9_82
      case y9_82 => intro wx hx; obtain ⟨h0, h1, h2⟩ := hx; go_simp; try (with_reducible rfl)
      simp only [Act.put, List.setIfInBounds_toArray, List.set_cons_zero, List.set_cons_succ]
      refine anyL_tg (i := 10) (v := ?v10_83) aZ10 (by kernel_rfl) ?y10_83 HS ?r10_83
      case y10_83 => intro wx hx; obtain ⟨h0, h1, h2⟩ := hx; go_simp; try (with_reducible rfl)
      simp only [Act.put, List.setIfInBounds_toArray, List.set_cons_zero, List.set_cons_succ]
      refine anyL_tg (i := 11) (v := ?v11_84) aZ11 (by kernel_rfl) ?y11_84 HS ?r11_84
      case y11_84 => intro wx hx; obtain ⟨h0, h1, h2⟩ := hx; go_simp; try (with_reducible rfl)
      simp only [Act.put, List.setIfInBounds_toArray, List.set_cons_zero, List.set_cons_succ]
      refine anyL_tg (i := 12) (v := ?v12_85) aZ12 (by kernel_rfl) ?y12_85 HS ?r12_85
      case y12_85 => intro wx hx; obtain ⟨h0, h1, h2⟩ := hx; go_simp; try (with_reducible rfl)
      simp only [Act.put, List.setIfInBounds_toArray, List.set_cons_zero, List.set_cons_succ]
      refine anyL_tg (i := 13) (v := ?v13_86) aZ13 (by kernel_rfl) ?y13_86 HS ?r13_86
      case y13_86 => intro wx hx; obtain ⟨h0, h1, h2⟩ := hx; go_simp; try (with_reducible rfl)
      simp only [Act.put, List.setIfInBounds_toArray, List.set_cons_zero, List.set_cons_succ]
      try simp only [D3]
      refine anyL_tk (i := 14) (v := ?v14_14) aZ14 (by kernel_rfl) ?y14_14 HS ?r14_14
      case y14_14 => intro wx hx; obtain ⟨h0, h1, h2⟩ := hx; go_simp; try (with_reducible rfl)
      simp only [Act.put, List.setIfInBounds_toArray, List.set_cons_zero, List.set_cons_succ]
      refine anyL_tk (i := 15) (v := ?v15_15) aZ15 (by kernel_rfl) ?y15_15 HS ?r15_15
      case y15_15 => intro wx hx; obtain ⟨h0, h1, h2⟩ := hx; go_simp; try (with_reducible rfl)
      simp only [Act.put, List.setIfInBounds_toArray, List.set_cons_zero, List.set_cons_succ]
      refine anyL_tg (i := 16) (v := ?v16_87) aZ16 (by kernel_rfl) ?y16_87 HS ?r16_87
      case y16_87 => intro wx hx; obtain ⟨h0, h1, h2⟩ := hx; go_simp; try (with_reducible rfl)
      simp only [Act.put, List.setIfInBounds_toArray, List.set_cons_zero, List.set_cons_succ]
      refine anyL_tg (i := 17) (v := ?v17_88) aZ17 (by kernel_rfl) ?y17_88 HS ?r17_88
      case y17_88 => intro wx hx; obtain ⟨h0, h1, h2⟩ := hx; go_simp; try (with_reducible rfl)
      simp only [Act.put, List.setIfInBounds_toArray, List.set_cons_zero, List.set_cons_succ]
      try simp only [D2, D2n]
      refine anyL_tg (i := 18) (v := ?v18_89) aZ18 (by kernel_rfl) ?y18_89 HS ?r18_89
      case y18_89 => intro wx hx; obtain ⟨h0, h1, h2⟩ := hx; go_simp; try (with_reducible rfl)
      simp only [Act.put, List.setIfInBounds_toArray, List.set_cons_zero, List.set_cons_succ]
      refine anyL_tg (i := 19) (v := ?v19_90) aZ19 (by kernel_rfl) ?y19_90 HS ?r19_90
      case y19_90 => intro wx hx; obtain ⟨h0, h1, h2⟩ := hx; go_simp; try (with_reducible rfl)
      simp only [Act.put, List.setIfInBounds_toArray, List.set_cons_zero, List.set_cons_succ]
      refine anyL_tg (i := 20) (v := ?v20_91) aZ20 (by kernel_rfl) ?y20_91 HS ?r20_91
      case y20_91 => intro wx hx; obtain ⟨h0, h1, h2⟩ := hx; go_simp; try (with_reducible rfl)
      simp only [Act.put, List.setIfInBounds_toArray, List.set_cons_zero, List.set_cons_succ]
      refine anyL_tg (i := 21) (v := ?v21_92) aZ21 (by kernel_rfl) ?y21_92 HS ?r21_92
      case y21_92 => intro wx hx; obtain ⟨h0, h1, h2⟩ := hx; go_simp; try (with_reducible rfl)
      simp only [Act.put, List.setIfInBounds_toArray, List.set_cons_zero, List.set_cons_succ]
      refine anyL_tg (i := 22) (v := ?v22_93) aZ22 (by kernel_rfl) ?y22_93 HS ?r22_93
      case y22_93 => intro wx hx; obtain ⟨h0, h1, h2⟩ := hx; go_simp; try (with_reducible rfl)
      simp only [Act.put, List.setIfInBounds_toArray, List.set_cons_zero, List.set_cons_succ]
      refine anyL_tg (i := 23) (v := ?v23_94) aZ23 (by kernel_rfl) ?y23_94 HS ?r23_94
      case y23_94 => intro wx hx; obtain ⟨h0, h1, h2⟩ := hx; go_simp; try (with_reducible rfl)
      simp only [Act.put, List.setIfInBounds_toArray, List.set_cons_zero, List.set_cons_succ]
      refine anyL_tg (i := 24) (v := ?v24_95) aZ24 (by kernel_rfl) ?y24_95 HS ?r24_95
      case y24_95 => intro wx hx; obtain ⟨h0, h1, h2⟩ := hx; go_simp; try (with_reducible rfl)
      simp only [Act.put, List.setIfInBounds_toArray, List.set_cons_zero, List.set_cons_succ]
      refine anyL_tg (i := 25) (v := ?v25_96) aZ25 (by kernel_rfl) ?y25_96 HS ?r25_96
      case y25_96 => intro wx hx; obtain ⟨h0, h1, h2⟩ := hx; go_simp; try (with_reducible rfl)
      simp only [Act.put, List.setIfInBounds_toArray, List.set_cons_zero, List.set_cons_succ]
      refine anyL_tg (i := 26) (v := ?v26_97) aZ26 (by kernel_rfl) ?y26_97 HS ?r26_97
      case y26_97 => intro wx hx; obtain ⟨h0, h1, h2⟩ := hx; go_simp; try (with_reducible rfl)
      simp only [Act.put, List.setIfInBounds_toArray, List.set_cons_zero, List.set_cons_succ]
      refine anyL_tg (i := 27) (v := ?v27_98) aZ27 (by kernel_rfl) ?y27_98 HS ?r27_98
      case y27_98 => intro wx hx; obtain ⟨h0, h1, h2⟩ := hx; go_simp; try (with_reducible rfl)
      simp only [Act.put, List.setIfInBounds_toArray, List.set_cons_zero, List.set_cons_succ]
      refine anyL_tg (i := 28) (v := ?v28_99) aZ28 (by kernel_rfl) ?y28_99 HS ?r28_99
      case y28_99 => intro wx hx; obtain ⟨h0, h1, h2⟩ := hx; go_simp; try (with_reducible rfl)
      simp only [Act.put, List.setIfInBounds_toArray, List.set_cons_zero, List.set_cons_succ]
      try simp only [D5]
      refine anyL_tg (i := 29) (v := ?v29_100) aZ29 (by kernel_rfl) ?y29_100 HS ?r29_100
      case y29_100 => intro wx hx; obtain ⟨h0, h1, h2⟩ := hx; go_simp; try (with_reducible rfl)
      simp only [Act.put, List.setIfInBounds_toArray, List.set_cons_zero, List.set_cons_succ]
      refine anyL_tk (i := 30) (v := ?v30_16) aZ30 (by kernel_rfl) ?y30_16 HS ?r30_16
      case y30_16 => intro wx hx; obtain ⟨h0, h1, h2⟩ := hx; go_simp; try (with_reducible rfl)
      simp only [Act.put, List.setIfInBounds_toArray, List.set_cons_zero, List.set_cons_succ]
      refine anyL_done (by kernel_rfl) (NoPanic.normal ?_)
      try simp only [Act.put, List.setIfInBounds_toArray, List.set_cons_zero, List.set_cons_succ]
      clear HS
      go_wp2
      go_roundw
      case rel => exact ⟨i + 1, by omega, by go_num, HBd.out⟩
      case measure => simp [intOf]; omega
    ·have d1 : (la : Int) ≤ (i : Int) := by omega
     by_cases hi0 : i = 0
     ·have d2 : (i : Int) ≤ (0 : Int) := by omega
      generalize el B i = x1 at *
      clear hi0 hb1
      have D1 : decide ((i : Int) < (la : Int)) = false := decide_eq_false (by omega)
      have D2 : decide ((0 : Int) < (i : Int)) = false := decide_eq_false (by omega)
      have D2n : decide (0 < i) = false := decide_eq_false (by omega)
      go_wp2
      have HS : HeldC3 ⟨bb, ob + i, none⟩ ⟨bb, ob + i, none⟩ ⟨bb, ob + i, none⟩ (.int .i64 x1) (.int .i64 x1) (.int .i64 x1) wr.drew := ⟨c1, c1, c1⟩
      refine region_anyL (HeldC3 ⟨bb, ob + i, none⟩ ⟨bb, ob + i, none⟩ ⟨bb, ob + i, none⟩ (.int .i64 x1) (.int .i64 x1) (.int .i64 x1)) 200 (by kernel_rfl) ?_
      have HBd : Hid (Below w4.heap.size w4 wr.drew) := hbw.out.drew
      generalize wr.drew = wd at *
      refine anyL_tk (i := 0) (v := ?v0_17) aZ0 (by kernel_rfl) ?y0_17 HS ?r0_17
      case y0_17 => intro wx hx; obtain ⟨h0, h1, h2⟩ := hx; go_simp; try (with_reducible rfl)
      simp only [Act.put, List.setIfInBounds_toArray, List.set_cons_zero, List.set_cons_succ]
      refine anyL_tk (i := 1) (v := ?v1_18) aZ1 (by kernel_rfl) ?y1_18 HS ?r1_18
      case y1_18 => intro wx hx; obtain ⟨h0, h1, h2⟩ := hx; go_simp; try (with_reducible rfl)
      simp only [Act.put, List.setIfInBounds_toArray, List.set_cons_zero, List.set_cons_succ]
      refine anyL_tk (i := 2) (v := ?v2_19) aZ2 (by kernel_rfl) ?y2_19 HS ?r2_19
      case y2_19 => intro wx hx; obtain ⟨h0, h1, h2⟩ := hx; go_simp; try (with_reducible rfl)
      simp only [Act.put, List.setIfInBounds_toArray, List.set_cons_zero, List.set_cons_succ]
      refine anyL_tk (i := 3) (v := ?v3_20) aZ3 (by kernel_rfl) ?y3_20 HS ?r3_20
      case y3_20 => intro wx hx; obtain ⟨h0, h1, h2⟩ := hx; go_simp; try (with_reducible rfl)
      simp only [Act.put, List.setIfInBounds_toArray, List.set_cons_zero, List.set_cons_succ]
      try simp only [D1]
      refine anyL_tk (i := 4) (v := ?v4_21) aZ4 (by kernel_rfl) ?y4_21 HS ?r4_21
      case y4_21 => intro wx hx; obtain ⟨h0, h1, h2⟩ := hx; go_simp; try (with_reducible rfl)
      simp only [Act.put, List.setIfInBounds_toArray, List.set_cons_zero, List.set_cons_succ]
      refine anyL_skip (i := 5) aZ5 (by kernel_rfl) (by kernel_rfl) (by kernel_rfl) (by kernel_rfl) (fun _ _ _ h => h) (by rfl) HS ?_
      try simp only [Act.put, List.setIfInBounds_toArray, List.set_cons_zero, List.set_cons_succ]
      refine anyL_skip (i := 6) aZ6 (by kernel_rfl) (by kernel_rfl) (by kernel_rfl) (by kernel_rfl) (fun _ _ _ h => h) (by rfl) HS ?_
      try simp only [Act.put, List.setIfInBounds_toArray, List.set_cons_zero, List.set_cons_succ]
      refine anyL_skip (i := 7) aZ7 (by kernel_rfl) (by kernel_rfl) (by kernel_rfl) (by kernel_rfl) (fun _ _ _ h => h) (by rfl) HS ?_
      try simp only [Act.put, List.setIfInBounds_toArray, List.set_cons_zero, List.set_cons_succ]
      refine anyL_skip (i := 8) aZ8 (by kernel_rfl) (by kernel_rfl) (by kernel_rfl) (by kernel_rfl) (fun _ _ _ h => h) (by rfl) HS ?_
      try simp only [Act.put, List.setIfInBounds_toArray, List.set_cons_zero, List.set_cons_succ]
      refine anyL_skip (i := 9) aZ9 (by kernel_rfl) (by kernel_rfl) (by kernel_rfl) (by kernel_rfl) (fun _ _ _ h => h) (by rfl) HS ?_
      try simp only [Act.put, List.setIfInBounds_toArray, List.set_cons_zero, List.set_cons_succ]
      refine anyL_skip (i := 10) aZ10 (by kernel_rfl) (by kernel_rfl) (by kernel_rfl) (by kernel_rfl) (fun _ _ _ h => h) (by rfl) HS ?_
      try simp only [Act.put, List.setIfInBounds_toArray, List.set_cons_zero, List.set_cons_succ]
      refine anyL_skip (i := 11) aZ11 (by kernel_rfl) (by kernel_rfl) (by kernel_rfl) (by kernel_rfl) (fun _ _ _ h => h) (by rfl) HS ?_
      try simp only [Act.put, List.setIfInBounds_toArray, List.set_cons_zero, List.set_cons_succ]
      refine anyL_skip (i := 12) aZ12 (by kernel_rfl) (by kernel_rfl) (by kernel_rfl) (by kernel_rfl) (fun _ _ _ h => h) (by rfl) HS ?_
      try simp only [Act.put, List.setIfInBounds_toArray, List.set_cons_zero, List.set_cons_succ]
      refine anyL_skip (i := 13) aZ13 (by kernel_rfl) (by kernel_rfl) (by kernel_rfl) (by kernel_rfl) (fun _ _ _ h => h) (by rfl) HS ?_
      try simp only [Act.put, List.setIfInBounds_toArray, List.set_cons_zero, List.set_cons_succ]
      refine anyL_tk (i := 14) (v := ?v14_22) aZ14 (by kernel_rfl) ?y14_22 HS ?r14_22
      case y14_22 => intro wx hx; obtain ⟨h0, h1, h2⟩ := hx; go_simp; try (with_reducible rfl)
      simp only [Act.put, List.setIfInBounds_toArray, List.set_cons_zero, List.set_cons_succ]
      refine anyL_tk (i := 15) (v := ?v15_23) aZ15 (by kernel_rfl) ?y15_23 HS ?r15_23
      case y15_23 => intro wx hx; obtain ⟨h0, h1, h2⟩ := hx; go_simp; try (with_reducible rfl)
      simp only [Act.put, List.setIfInBounds_toArray, List.set_cons_zero, List.set_cons_succ]
      refine anyL_tg (i := 16) (v := ?v16_101) aZ16 (by kernel_rfl) ?y16_101 HS ?r16_101
      case y16_101 => intro wx hx; obtain ⟨h0, h1, h2⟩ := hx; go_simp; try (with_reducible rfl)
      simp only [Act.put, List.setIfInBounds_toArray, List.set_cons_zero, List.set_cons_succ]
      refine anyL_tg (i := 17) (v := ?v17_102) aZ17 (by kernel_rfl) ?y17_102 HS ?r17_102
      case y17_102 => intro wx hx; obtain ⟨h0, h1, h2⟩ := hx; go_simp; try (with_reducible rfl)
      simp only [Act.put, List.setIfInBounds_toArray, List.set_cons_zero, List.set_cons_succ]
      try simp only [D2, D2n]
      refine anyL_tg (i := 18) (v := ?v18_103) aZ18 (by kernel_rfl) ?y18_103 HS ?r18_103
      case y18_103 => intro wx hx; obtain ⟨h0, h1, h2⟩ := hx; go_simp; try (with_reducible rfl)
      simp only [Act.put, List.setIfInBounds_toArray, List.set_cons_zero, List.set_cons_succ]
      refine anyL_skip (i := 19) aZ19 (by kernel_rfl) (by kernel_rfl) (by kernel_rfl) (by kernel_rfl) (fun _ _ _ h => h) (by rfl) HS ?_
      try simp only [Act.put, List.setIfInBounds_toArray, List.set_cons_zero, List.set_cons_succ]
      refine anyL_skip (i := 20) aZ20 (by kernel_rfl) (by kernel_rfl) (by kernel_rfl) (by kernel_rfl) (fun _ _ _ h => h) (by rfl) HS ?_
      try simp only [Act.put, List.setIfInBounds_toArray, List.set_cons_zero, List.set_cons_succ]
      refine anyL_skip (i := 21) aZ21 (by kernel_rfl) (by kernel_rfl) (by kernel_rfl) (by kernel_rfl) (fun _ _ _ h => h) (by rfl) HS ?_
      try simp only [Act.put, List.setIfInBounds_toArray, List.set_cons_zero, List.set_cons_succ]
      refine anyL_skip (i := 22) aZ22 (by kernel_rfl) (by kernel_rfl) (by kernel_rfl) (by kernel_rfl) (fun _ _ _ h => h) (by rfl) HS ?_
      try simp only [Act.put, List.setIfInBounds_toArray, List.set_cons_zero, List.set_cons_succ]
      refine anyL_skip (i := 23) aZ23 (by kernel_rfl) (by kernel_rfl) (by kernel_rfl) (by kernel_rfl) (fun _ _ _ h => h) (by rfl) HS ?_
      try simp only [Act.put, List.setIfInBounds_toArray, List.set_cons_zero, List.set_cons_succ]
      refine anyL_skip (i := 24) aZ24 (by kernel_rfl) (by kernel_rfl) (by kernel_rfl) (by kernel_rfl) (fun _ _ _ h => h) (by rfl) HS ?_
      try simp only [Act.put, List.setIfInBounds_toArray, List.set_cons_zero, List.set_cons_succ]
      refine anyL_skip (i := 25) aZ25 (by kernel_rfl) (by kernel_rfl) (by kernel_rfl) (by kernel_rfl) (fun _ _ _ h => h) (by rfl) HS ?_
      try simp only [Act.put, List.setIfInBounds_toArray, List.set_cons_zero, List.set_cons_succ]
      refine anyL_skip (i := 26) aZ26 (by kernel_rfl) (by kernel_rfl) (by kernel_rfl) (by kernel_rfl) (fun _ _ _ h => h) (by rfl) HS ?_
      try simp only [Act.put, List.setIfInBounds_toArray, List.set_cons_zero, List.set_cons_succ]
      refine anyL_skip (i := 27) aZ27 (by kernel_rfl) (by kernel_rfl) (by kernel_rfl) (by kernel_rfl) (fun _ _ _ h => h) (by rfl) HS ?_
      try simp only [Act.put, List.setIfInBounds_toArray, List.set_cons_zero, List.set_cons_succ]
      refine anyL_skip (i := 28) aZ28 (by kernel_rfl) (by kernel_rfl) (by kernel_rfl) (by kernel_rfl) (fun _ _ _ h => h) (by rfl) HS ?_
      try simp only [Act.put, List.setIfInBounds_toArray, List.set_cons_zero, List.set_cons_succ]
      refine anyL_tg (i := 29) (v := ?v29_104) aZ29 (by kernel_rfl) ?y29_104 HS ?r29_104
      case y29_104 => intro wx hx; obtain ⟨h0, h1, h2⟩ := hx; go_simp; try (with_reducible rfl)
      simp only [Act.put, List.setIfInBounds_toArray, List.set_cons_zero, List.set_cons_succ]
      refine anyL_tk (i := 30) (v := ?v30_24) aZ30 (by kernel_rfl) ?y30_24 HS ?r30_24
      case y30_24 => intro wx hx; obtain ⟨h0, h1, h2⟩ := hx; go_simp; try (with_reducible rfl)
      simp only [Act.put, List.setIfInBounds_toArray, List.set_cons_zero, List.set_cons_succ]
      refine anyL_done (by kernel_rfl) (NoPanic.normal ?_)
      try simp only [Act.put, List.setIfInBounds_toArray, List.set_cons_zero, List.set_cons_succ]
      clear HS
      go_wp2
      go_roundw
      case rel => exact ⟨i + 1, by omega, by go_num, HBd.out⟩
      case measure => simp [intOf]; omega
     ·obtain ⟨j, hj⟩ : ∃ j, i = j + 1 := ⟨i - 1, by omega⟩
      have d2 : (0 : Int) < (i : Int) := by omega
      obtain ⟨b3, o3, hal, hb3, c3⟩ := GB.out j (by omega)
      have hal := addrC hal
      obtain ⟨rfl, rfl⟩ := hal
      have c3 := (hbw.out.cell (p := ⟨bb, ob + j, none⟩) hb3).trans c3
      have k5 : IntKind.i64.wrap ((i : Int) - 1) = (j : Int) := by rw [wrapI (by omega) (by omega)]; omega
      have k6 : (0 : Int) ≤ (j : Int) := by omega
      have k7 : (j : Int) < (lb : Int) := by omega
      have d4 := ris_step HBR.out (i := j) (by rw [HLB.out]; omega)
      rw [← hj] at d4
      have HJ := hidP hj
      generalize el B i = x1 at *
      generalize el B j = x2 at *
      have d5 : x2 ≤ x1 := d4
      clear hi0 hb1 hb3 hj d4
      have D1 : decide ((i : Int) < (la : Int)) = false := decide_eq_false (by omega)
      have D2 : decide ((0 : Int) < (i : Int)) = true := decide_eq_true d2
      have D2n : decide (0 < i) = true := decide_eq_true (by omega)
      have D5 : decide (x1 < x2) = false := decide_eq_false (by omega)
      go_wp2
      have HS : HeldC3 ⟨bb, ob + i, none⟩ ⟨bb, ob + i, none⟩ ⟨bb, ob + j, none⟩ (.int .i64 x1) (.int .i64 x1) (.int .i64 x2) wr.drew := ⟨c1, c1, c3⟩
      refine region_anyL (HeldC3 ⟨bb, ob + i, none⟩ ⟨bb, ob + i, none⟩ ⟨bb, ob + j, none⟩ (.int .i64 x1) (.int .i64 x1) (.int .i64 x2)) 200 (by kernel_rfl) ?_
      have HBd : Hid (Below w4.heap.size w4 wr.drew) := hbw.out.drew
      generalize wr.drew = wd at *
      refine anyL_tk (i := 0) (v := ?v0_25) aZ0 (by kernel_rfl) ?y0_25 HS ?r0_25
      case y0_25 => intro wx hx; obtain ⟨h0, h1, h2⟩ := hx; go_simp; try (with_reducible rfl)
      simp only [Act.put, List.setIfInBounds_toArray, List.set_cons_zero, List.set_cons_succ]
      refine anyL_tk (i := 1) (v := ?v1_26) aZ1 (by kernel_rfl) ?y1_26 HS ?r1_26
      case y1_26 => intro wx hx; obtain ⟨h0, h1, h2⟩ := hx; go_simp; try (with_reducible rfl)
      simp only [Act.put, List.setIfInBounds_toArray, List.set_cons_zero, List.set_cons_succ]
      refine anyL_tk (i := 2) (v := ?v2_27) aZ2 (by kernel_rfl) ?y2_27 HS ?r2_27
      case y2_27 => intro wx hx; obtain ⟨h0, h1, h2⟩ := hx; go_simp; try (with_reducible rfl)
      simp only [Act.put, List.setIfInBounds_toArray, List.set_cons_zero, List.set_cons_succ]
      refine anyL_tk (i := 3) (v := ?v3_28) aZ3 (by kernel_rfl) ?y3_28 HS ?r3_28
      case y3_28 => intro wx hx; obtain ⟨h0, h1, h2⟩ := hx; go_simp; try (with_reducible rfl)
      simp only [Act.put, List.setIfInBounds_toArray, List.set_cons_zero, List.set_cons_succ]
      try simp only [D1]
      refine anyL_tk (i := 4) (v := ?v4_29) aZ4 (by kernel_rfl) ?y4_29 HS ?r4_29
      case y4_29 => intro wx hx; obtain ⟨h0, h1, h2⟩ := hx; go_simp; try (with_reducible rfl)
      simp only [Act.put, List.setIfInBounds_toArray, List.set_cons_zero, List.set_cons_succ]
      refine anyL_skip (i := 5) aZ5 (by kernel_rfl) (by kernel_rfl) (by kernel_rfl) (by kernel_rfl) (fun _ _ _ h => h) (by rfl) HS ?_
      try simp only [Act.put, List.setIfInBounds_toArray, List.set_cons_zero, List.set_cons_succ]
      refine anyL_skip (i := 6) aZ6 (by kernel_rfl) (by kernel_rfl) (by kernel_rfl) (by kernel_rfl) (fun _ _ _ h => h) (by rfl) HS ?_
      try simp only [Act.put, List.setIfInBounds_toArray, List.set_cons_zero, List.set_cons_succ]
      refine anyL_skip (i := 7) aZ7 (by kernel_rfl) (by kernel_rfl) (by kernel_rfl) (by kernel_rfl) (fun _ _ _ h => h) (by rfl) HS ?_
      try simp only [Act.put, List.setIfInBounds_toArray, List.set_cons_zero, List.set_cons_succ]
      refine anyL_skip (i := 8) aZ8 (by kernel_rfl) (by kernel_rfl) (by kernel_rfl) (by kernel_rfl) (fun _ _ _ h => h) (by rfl) HS ?_
      try simp only [Act.put, List.setIfInBounds_toArray, List.set_cons_zero, List.set_cons_succ]
      refine anyL_skip (i := 9) aZ9 (by kernel_rfl) (by kernel_rfl) (by kernel_rfl) (by kernel_rfl) (fun _ _ _ h => h) (by rfl) HS ?_
      try simp only [Act.put, List.setIfInBounds_toArray, List.set_cons_zero, List.set_cons_succ]
      refine anyL_skip (i := 10) aZ10 (by kernel_rfl) (by kernel_rfl) (by kernel_rfl) (by kernel_rfl) (fun _ _ _ h => h) (by rfl) HS ?_
      try simp only [Act.put, List.setIfInBounds_toArray, List.set_cons_zero, List.set_cons_succ]
      refine anyL_skip (i := 11) aZ11 (by kernel_rfl) (by kernel_rfl) (by kernel_rfl) (by kernel_rfl) (fun _ _ _ h => h) (by rfl) HS ?_
      try simp only [Act.put, List.setIfInBounds_toArray, List.set_cons_zero, List.set_cons_succ]
      refine anyL_skip (i := 12) aZ12 (by kernel_rfl) (by kernel_rfl) (by kernel_rfl) (by kernel_rfl) (fun _ _ _ h => h) (by rfl) HS ?_
      try simp only [Act.put, List.setIfInBounds_toArray, List.set_cons_zero, List.set_cons_succ]
      refine anyL_skip (i := 13) aZ13 (by kernel_rfl) (by kernel_rfl) (by kernel_rfl) (by kernel_rfl) (fun _ _ _ h => h) (by rfl) HS ?_
      try simp only [Act.put, List.setIfInBounds_toArray, List.set_cons_zero, List.set_cons_succ]
      refine anyL_tk (i := 14) (v := ?v14_30) aZ14 (by kernel_rfl) ?y14_30 HS ?r14_30
      case y14_30 => intro wx hx; obtain ⟨h0, h1, h2⟩ := hx; go_simp; try (with_reducible rfl)
      simp only [Act.put, List.setIfInBounds_toArray, List.set_cons_zero, List.set_cons_succ]
      refine anyL_tk (i := 15) (v := ?v15_31) aZ15 (by kernel_rfl) ?y15_31 HS ?r15_31
      case y15_31 => intro wx hx; obtain ⟨h0, h1, h2⟩ := hx; go_simp; try (with_reducible rfl)
      simp only [Act.put, List.setIfInBounds_toArray, List.set_cons_zero, List.set_cons_succ]
      refine anyL_tg (i := 16) (v := ?v16_105) aZ16 (by kernel_rfl) ?y16_105 HS ?r16_105
      case y16_105 => intro wx hx; obtain ⟨h0, h1, h2⟩ := hx; go_simp; try (with_reducible rfl)
      simp only [Act.put, List.setIfInBounds_toArray, List.set_cons_zero, List.set_cons_succ]
      refine anyL_tg (i := 17) (v := ?v17_106) aZ17 (by kernel_rfl) ?y17_106 HS ?r17_106
      case y17_106 => intro wx hx; obtain ⟨h0, h1, h2⟩ := hx; go_simp; try (with_reducible rfl)
      simp only [Act.put, List.setIfInBounds_toArray, List.set_cons_zero, List.set_cons_succ]
      try simp only [D2, D2n]
      refine anyL_tg (i := 18) (v := ?v18_107) aZ18 (by kernel_rfl) ?y18_107 HS ?r18_107
      case y18_107 => intro wx hx; obtain ⟨h0, h1, h2⟩ := hx; go_simp; try (with_reducible rfl)
      simp only [Act.put, List.setIfInBounds_toArray, List.set_cons_zero, List.set_cons_succ]
      refine anyL_tg (i := 19) (v := ?v19_108) aZ19 (by kernel_rfl) ?y19_108 HS ?r19_108
      case y19_108 => intro wx hx; obtain ⟨h0, h1, h2⟩ := hx; go_simp; try (with_reducible rfl)
      simp only [Act.put, List.setIfInBounds_toArray, List.set_cons_zero, List.set_cons_succ]
      refine anyL_tg (i := 20) (v := ?v20_109) aZ20 (by kernel_rfl) ?y20_109 HS ?r20_109
      case y20_109 => intro wx hx; obtain ⟨h0, h1, h2⟩ := hx; go_simp; try (with_reducible rfl)
      simp only [Act.put, List.setIfInBounds_toArray, List.set_cons_zero, List.set_cons_succ]
      refine anyL_tg (i := 21) (v := ?v21_110) aZ21 (by kernel_rfl) ?y21_110 HS ?r21_110
      case y21_110 => intro wx hx; obtain ⟨h0, h1, h2⟩ := hx; go_simp; try (with_reducible rfl)
      simp only [Act.put, List.setIfInBounds_toArray, List.set_cons_zero, List.set_cons_succ]
      refine anyL_tg (i := 22) (v := ?v22_111) aZ22 (by kernel_rfl) ?y22_111 HS ?r22_111
      case y22_111 => intro wx hx; obtain ⟨h0, h1, h2⟩ := hx; go_simp; try (with_reducible rfl)
      simp only [Act.put, List.setIfInBounds_toArray, List.set_cons_zero, List.set_cons_succ]
      refine anyL_tg (i := 23) (v := ?v23_112) aZ23 (by kernel_rfl) ?y23_112 HS ?r23_112
      case y23_112 => intro wx hx; obtain ⟨h0, h1, h2⟩ := hx; go_simp; try (with_reducible rfl)
      simp only [Act.put, List.setIfInBounds_toArray, List.set_cons_zero, List.set_cons_succ]
      refine anyL_tg (i := 24) (v := ?v24_113) aZ24 (by kernel_rfl) ?y24_113 HS ?r24_113
      case y24_113 => intro wx hx; obtain ⟨h0, h1, h2⟩ := hx; go_simp; try (with_reducible rfl)
      simp only [Act.put, List.setIfInBounds_toArray, List.set_cons_zero, List.set_cons_succ]
      refine anyL_tg (i := 25) (v := ?v25_114) aZ25 (by kernel_rfl) ?y25_114 HS ?r25_114
      case y25_114 => intro wx hx; obtain ⟨h0, h1, h2⟩ := hx; go_simp; try (with_reducible rfl)
      simp only [Act.put, List.setIfInBounds_toArray, List.set_cons_zero, List.set_cons_succ]
      refine anyL_tg (i := 26) (v := ?v26_115) aZ26 (by kernel_rfl) ?y26_115 HS ?r26_115
      case y26_115 => intro wx hx; obtain ⟨h0, h1, h2⟩ := hx; go_simp; try (with_reducible rfl)
      simp only [Act.put, List.setIfInBounds_toArray, List.set_cons_zero, List.set_cons_succ]
      refine anyL_tg (i := 27) (v := ?v27_116) aZ27 (by kernel_rfl) ?y27_116 HS ?r27_116
      case y27_116 => intro wx hx; obtain ⟨h0, h1, h2⟩ := hx; go_simp; try (with_reducible rfl)
      simp only [Act.put, List.setIfInBounds_toArray, List.set_cons_zero, List.set_cons_succ]
      refine anyL_tg (i := 28) (v := ?v28_117) aZ28 (by kernel_rfl) ?y28_117 HS ?r28_117
      case y28_117 => intro wx hx; obtain ⟨h0, h1, h2⟩ := hx; go_simp; try (with_reducible rfl)
      simp only [Act.put, List.setIfInBounds_toArray, List.set_cons_zero, List.set_cons_succ]
      try simp only [D5]
      refine anyL_tg (i := 29) (v := ?v29_118) aZ29 (by kernel_rfl) ?y29_118 HS ?r29_118
      case y29_118 => intro wx hx; obtain ⟨h0, h1, h2⟩ := hx; go_simp; try (with_reducible rfl)
      simp only [Act.put, List.setIfInBounds_toArray, List.set_cons_zero, List.set_cons_succ]
      refine anyL_tk (i := 30) (v := ?v30_32) aZ30 (by kernel_rfl) ?y30_32 HS ?r30_32
      case y30_32 => intro wx hx; obtain ⟨h0, h1, h2⟩ := hx; go_simp; try (with_reducible rfl)
      simp only [Act.put, List.setIfInBounds_toArray, List.set_cons_zero, List.set_cons_succ]
      refine anyL_done (by kernel_rfl) (NoPanic.normal ?_)
      try simp only [Act.put, List.setIfInBounds_toArray, List.set_cons_zero, List.set_cons_succ]
      clear HS
      go_wp2
      go_roundw
      case rel => exact ⟨i + 1, by omega, by go_num, HBd.out⟩
      case measure => simp [intOf]; omega
   ·have k1 : (lb : Int) ≤ (i : Int) := by omega
    go_wp2
    go_ret
    exact ⟨rfl, HB4.out.trans (hbw.out.mono HB4.out.size)⟩
 ·clear q0 q1 p0 p1 z1 z2 z3 z4 y1 y2 y3 y4 e0 hbbl
  go_loopw [13] (fun s wr => ∃ i : Nat, i ≤ lb ∧ s = .int .i64 (i : Int) ∧ Hid (Below w4.heap.size w4 wr)) (fun s _ => lb - (intOf s).toNat)
  case atStart => exact ⟨0, Nat.zero_le _, rfl, Below.refl _ _⟩
  case round =>
   obtain ⟨i, hi, rfl, hbw⟩ := hrel
   by_cases hlt : i < lb
   ·obtain ⟨b1, o1, hal, hb1, c1⟩ := GB.out i hlt
    have hal := addrC hal
    obtain ⟨rfl, rfl⟩ := hal
    have c1 := (hbw.out.cell (p := ⟨bb, ob + i, none⟩) hb1).trans c1
    have k0 : (0 : Int) ≤ (i : Int) := by omega
    have k1 : (i : Int) < (lb : Int) := by omega
    have k2 : (i : Int) ≤ 20 := by omega
    by_cases hia : i < la
    ·obtain ⟨b2, o2, rfl, hb2, c2⟩ := GA.out i hia
     have c2 := (hbw.out.cell (p := ⟨b2, o2 + i, none⟩) hb2).trans c2
     rw [HAT.out, el_takeC (by omega)] at c2
     have d1 : (i : Int) < (la : Int) := by omega
     have HX1 : Hid (el B i = el B i) := rfl
     by_cases hi0 : i = 0
     ·have d2 : (i : Int) ≤ (0 : Int) := by omega
      have HI0 := hidP hi0
      generalize el B i = x1 at *
      have d3 : (x1 != x1) = false := by simp
      clear hi0 hb1 hb2 HX1
      have D1 : decide ((i : Int) < (la : Int)) = true := decide_eq_true d1
      have D3 : (x1 != x1) = false := by simp
      have D2 : decide ((0 : Int) < (i : Int)) = false := decide_eq_false (by omega)
      have D2n : decide (0 < i) = false := decide_eq_false (by omega)
      go_wp2
      have HS : HeldC3 ⟨bb, ob + i, none⟩ ⟨b2, o2 + i, none⟩ ⟨bb, ob + i, none⟩ (.int .i64 x1) (.int .i64 x1) (.int .i64 x1) wr.drew := ⟨c1, c2, c1⟩
      refine region_anyL (HeldC3 ⟨bb, ob + i, none⟩ ⟨b2, o2 + i, none⟩ ⟨bb, ob + i, none⟩ (.int .i64 x1) (.int .i64 x1) (.int .i64 x1)) 200 (by kernel_rfl) ?_
      have HBd : Hid (Below w4.heap.size w4 wr.drew) := hbw.out.drew
      generalize wr.drew = wd at *
      refine anyL_tk (i := 0) (v := ?v0_33) aZ0 (by kernel_rfl) ?y0_33 HS ?r0_33
      case y0_33 => intro wx hx; obtain ⟨h0, h1, h2⟩ := hx; go_simp; try (with_reducible rfl)
      simp only [Act.put, List.setIfInBounds_toArray, List.set_cons_zero, List.set_cons_succ]
      refine anyL_tk (i := 1) (v := ?v1_34) aZ1 (by kernel_rfl) ?y1_34 HS ?r1_34
      case y1_34 => intro wx hx; obtain ⟨h0, h1, h2⟩ := hx; go_simp; try (with_reducible rfl)
      simp only [Act.put, List.setIfInBounds_toArray, List.set_cons_zero, List.set_cons_succ]
      refine anyL_tk (i := 2) (v := ?v2_35) aZ2 (by kernel_rfl) ?y2_35 HS ?r2_35
      case y2_35 => intro wx hx; obtain ⟨h0, h1, h2⟩ := hx; go_simp; try (with_reducible rfl)
      simp only [Act.put, List.setIfInBounds_toArray, List.set_cons_zero, List.set_cons_succ]
      refine anyL_tk (i := 3) (v := ?v3_36) aZ3 (by kernel_rfl) ?y3_36 HS ?r3_36
      case y3_36 => intro wx hx; obtain ⟨h0, h1, h2⟩ := hx; go_simp; try (with_reducible rfl)
      simp only [Act.put, List.setIfInBounds_toArray, List.set_cons_zero, List.set_cons_succ]
      try simp only [D1]
      refine anyL_tk (i := 4) (v := ?v4_37) aZ4 (by kernel_rfl) ?y4_37 HS ?r4_37
      case y4_37 => intro wx hx; obtain ⟨h0, h1, h2⟩ := hx; go_simp; try (with_reducible rfl)
      simp only [Act.put, List.setIfInBounds_toArray, List.set_cons_zero, List.set_cons_succ]
      refine anyL_tg (i := 5) (v := ?v5_119) aZ5 (by kernel_rfl) ?y5_119 HS ?r5_119
      case y5_119 => intro wx hx; obtain ⟨h0, h1, h2⟩ := hx; go_simp; try (with_reducible rfl)
      simp only [Act.put, List.setIfInBounds_toArray, List.set_cons_zero, List.set_cons_succ]
      refine anyL_tg (i := 6) (v := ?v6_120) aZ6 (by kernel_rfl) ?y6_120 HS ?r6_120
      case y6_120 => intro wx hx; obtain ⟨h0, h1, h2⟩ := hx; go_simp; try (with_reducible rfl)
      simp only [Act.put, List.setIfInBounds_toArray, List.set_cons_zero, List.set_cons_succ]
      refine anyL_tg (i := 7) (v := ?v7_121) aZ7 (by kernel_rfl) ?y7_121 HS ?r7_121
      case y7_121 => intro wx hx; obtain ⟨h0, h1, h2⟩ := hx; go_simp; try (with_reducible rfl)
      simp only [Act.put, List.setIfInBounds_toArray, List.set_cons_zero, List.set_cons_succ]
      refine anyL_tg (i := 8) (v := ?v8_122) aZ8 (by kernel_rfl) ?y8_122 HS ?r8_122
      case y8_122 => intro wx hx; obtain ⟨h0, h1, h2⟩ := hx; go_simp; try (with_reducible rfl)
      simp only [Act.put, List.setIfInBounds_toArray, List.set_cons_zero, List.set_cons_succ]
      refine anyL_tg (i := 9) (v := ?v9_123) aZ9 (by kernel_rfl) ?y9_123 HS ?r9_123
      case y9_123 => intro wx hx; obtain ⟨h0, h1, h2⟩ := hx; go_simp; try (with_reducible rfl)
      simp only [Act.put, List.setIfInBounds_toArray, List.set_cons_zero, List.set_cons_succ]
      refine anyL_tg (i := 10) (v := ?v10_124) aZ10 (by kernel_rfl) ?y10_124 HS ?r10_124
      case y10_124 => intro wx hx; obtain ⟨h0, h1, h2⟩ := hx; go_simp; try (with_reducible rfl)
      simp only [Act.put, List.setIfInBounds_toArray, List.set_cons_zero, List.set_cons_succ]
      refine anyL_tg (i := 11) (v := ?v11_125) aZ11 (by kernel_rfl) ?y11_125 HS ?r11_125
      case y11_125 => intro wx hx; obtain ⟨h0, h1, h2⟩ := hx; go_simp; try (with_reducible rfl)
      simp only [Act.put, List.setIfInBounds_toArray, List.set_cons_zero, List.set_cons_succ]
      refine anyL_tg (i := 12) (v := ?v12_126) aZ12 (by kernel_rfl) ?y12_126 HS ?r12_126
      case y12_126 => intro wx hx; obtain ⟨h0, h1, h2⟩ := hx; go_simp; try (with_reducible rfl)
      simp only [Act.put, List.setIfInBounds_toArray, List.set_cons_zero, List.set_cons_succ]
      refine anyL_tg (i := 13) (v := ?v13_127) aZ13 (by kernel_rfl) ?y13_127 HS ?r13_127
      case y13_127 => intro wx hx; obtain ⟨h0, h1, h2⟩ := hx; go_simp; try (with_reducible rfl)
      simp only [Act.put, List.setIfInBounds_toArray, List.set_cons_zero, List.set_cons_succ]
      try simp only [D3]
      refine anyL_tk (i := 14) (v := ?v14_38) aZ14 (by kernel_rfl) ?y14_38 HS ?r14_38
      case y14_38 => intro wx hx; obtain ⟨h0, h1, h2⟩ := hx; go_simp; try (with_reducible rfl)
      simp only [Act.put, List.setIfInBounds_toArray, List.set_cons_zero, List.set_cons_succ]
      refine anyL_tk (i := 15) (v := ?v15_39) aZ15 (by kernel_rfl) ?y15_39 HS ?r15_39
      case y15_39 => intro wx hx; obtain ⟨h0, h1, h2⟩ := hx; go_simp; try (with_reducible rfl)
      simp only [Act.put, List.setIfInBounds_toArray, List.set_cons_zero, List.set_cons_succ]
      refine anyL_tg (i := 16) (v := ?v16_128) aZ16 (by kernel_rfl) ?y16_128 HS ?r16_128
      case y16_128 => intro wx hx; obtain ⟨h0, h1, h2⟩ := hx; go_simp; try (with_reducible rfl)
      simp only [Act.put, List.setIfInBounds_toArray, List.set_cons_zero, List.set_cons_succ]
      refine anyL_tg (i := 17) (v := ?v17_129) aZ17 (by kernel_rfl) ?y17_129 HS ?r17_129
      case y17_129 => intro wx hx; obtain ⟨h0, h1, h2⟩ := hx; go_simp; try (with_reducible rfl)
      simp only [Act.put, List.setIfInBounds_toArray, List.set_cons_zero, List.set_cons_succ]
      try simp only [D2, D2n]
      refine anyL_tg (i := 18) (v := ?v18_130) aZ18 (by kernel_rfl) ?y18_130 HS ?r18_130
      case y18_130 => intro wx hx; obtain ⟨h0, h1, h2⟩ := hx; go_simp; try (with_reducible rfl)
      simp only [Act.put, List.setIfInBounds_toArray, List.set_cons_zero, List.set_cons_succ]
      refine anyL_skip (i := 19) aZ19 (by kernel_rfl) (by kernel_rfl) (by kernel_rfl) (by kernel_rfl) (fun _ _ _ h => h) (by rfl) HS ?_
      try simp only [Act.put, List.setIfInBounds_toArray, List.set_cons_zero, List.set_cons_succ]
      refine anyL_skip (i := 20) aZ20 (by kernel_rfl) (by kernel_rfl) (by kernel_rfl) (by kernel_rfl) (fun _ _ _ h => h) (by rfl) HS ?_
      try simp only [Act.put, List.setIfInBounds_toArray, List.set_cons_zero, List.set_cons_succ]
      refine anyL_skip (i := 21) aZ21 (by kernel_rfl) (by kernel_rfl) (by kernel_rfl) (by kernel_rfl) (fun _ _ _ h => h) (by rfl) HS ?_
      try simp only [Act.put, List.setIfInBounds_toArray, List.set_cons_zero, List.set_cons_succ]
      refine anyL_skip (i := 22) aZ22 (by kernel_rfl) (by kernel_rfl) (by kernel_rfl) (by kernel_rfl) (fun _ _ _ h => h) (by rfl) HS ?_
      try simp only [Act.put, List.setIfInBounds_toArray, List.set_cons_zero, List.set_cons_succ]
      refine anyL_skip (i := 23) aZ23 (by kernel_rfl) (by kernel_rfl) (by kernel_rfl) (by kernel_rfl) (fun _ _ _ h => h) (by rfl) HS ?_
      try simp only [Act.put, List.setIfInBounds_toArray, List.set_cons_zero, List.set_cons_succ]
      refine anyL_skip (i := 24) aZ24 (by kernel_rfl) (by kernel_rfl) (by kernel_rfl) (by kernel_rfl) (fun _ _ _ h => h) (by rfl) HS ?_
      try simp only [Act.put, List.setIfInBounds_toArray, List.set_cons_zero, List.set_cons_succ]
      refine anyL_skip (i := 25) aZ25 (by kernel_rfl) (by kernel_rfl) (by kernel_rfl) (by kernel_rfl) (fun _ _ _ h => h) (by rfl) HS ?_
      try simp only [Act.put, List.setIfInBounds_toArray, List.set_cons_zero, List.set_cons_succ]
      refine anyL_skip (i := 26) aZ26 (by kernel_rfl) (by kernel_rfl) (by kernel_rfl) (by kernel_rfl) (fun _ _ _ h => h) (by rfl) HS ?_
      try simp only [Act.put, List.setIfInBounds_toArray, List.set_cons_zero, List.set_cons_succ]
      refine anyL_skip (i := 27) aZ27 (by kernel_rfl) (by kernel_rfl) (by kernel_rfl) (by kernel_rfl) (fun _ _ _ h => h) (by rfl) HS ?_
      try simp only [Act.put, List.setIfInBounds_toArray, List.set_cons_zero, List.set_cons_succ]
      refine anyL_skip (i := 28) aZ28 (by kernel_rfl) (by kernel_rfl) (by kernel_rfl) (by kernel_rfl) (fun _ _ _ h => h) (by rfl) HS ?_
      try simp only [Act.put, List.setIfInBounds_toArray, List.set_cons_zero, List.set_cons_succ]
      refine anyL_tg (i := 29) (v := ?v29_131) aZ29 (by kernel_rfl) ?y29_131 HS ?r29_131
      case y29_131 => intro wx hx; obtain ⟨h0, h1, h2⟩ := hx; go_simp; try (with_reducible rfl)
      simp only [Act.put, List.setIfInBounds_toArray, List.set_cons_zero, List.set_cons_succ]
      refine anyL_tk (i := 30) (v := ?v30_40) aZ30 (by kernel_rfl) ?y30_40 HS ?r30_40
      case y30_40 => intro wx hx; obtain ⟨h0, h1, h2⟩ := hx; go_simp; try (with_reducible rfl)
      simp only [Act.put, List.setIfInBounds_toArray, List.set_cons_zero, List.set_cons_succ]
      refine anyL_done (by kernel_rfl) (NoPanic.normal ?_)
      try simp only [Act.put, List.setIfInBounds_toArray, List.set_cons_zero, List.set_cons_succ]
      clear HS
      go_wp2
      go_roundw
      case rel => exact ⟨i + 1, by omega, by go_num, HBd.out⟩
      case measure => simp [intOf]; omega
     ·obtain ⟨j, hj⟩ : ∃ j, i = j + 1 := ⟨i - 1, by omega⟩
      have d2 : (0 : Int) < (i : Int) := by omega
      obtain ⟨b3, o3, hal, hb3, c3⟩ := GB.out j (by omega)
      have hal := addrC hal
      obtain ⟨rfl, rfl⟩ := hal
      have c3 := (hbw.out.cell (p := ⟨bb, ob + j, none⟩) hb3).trans c3
      have k5 : IntKind.i64.wrap ((i : Int) - 1) = (j : Int) := by rw [wrapI (by omega) (by omega)]; omega
      have k6 : (0 : Int) ≤ (j : Int) := by omega
      have k7 : (j : Int) < (lb : Int) := by omega
      have d4 := ris_step HBR.out (i := j) (by rw [HLB.out]; omega)
      rw [← hj] at d4
      have HJ := hidP hj
      generalize el B i = x1 at *
      generalize el B j = x2 at *
      have d3 : (x1 != x1) = false := by simp
      have d5 : x2 ≤ x1 := d4
      clear hi0 hb1 hb2 hb3 HX1 hj d4
      have D1 : decide ((i : Int) < (la : Int)) = true := decide_eq_true d1
      have D3 : (x1 != x1) = false := by simp
      have D2 : decide ((0 : Int) < (i : Int)) = true := decide_eq_true d2
      have D2n : decide (0 < i) = true := decide_eq_true (by omega)
      have D5 : decide (x1 < x2) = false := decide_eq_false (by omega)
      go_wp2
      have HS : HeldC3 ⟨bb, ob + i, none⟩ ⟨b2, o2 + i, none⟩ ⟨bb, ob + j, none⟩ (.int .i64 x1) (.int .i64 x1) (.int .i64 x2) wr.drew := ⟨c1, c2, c3⟩
      refine region_anyL (HeldC3 ⟨bb, ob + i, none⟩ ⟨b2, o2 + i, none⟩ ⟨bb, ob + j, none⟩ (.int .i64 x1) (.int .i64 x1) (.int .i64 x2)) 200 (by kernel_rfl) ?_
      have HBd : Hid (Below w4.heap.size w4 wr.drew) := hbw.out.drew
      generalize wr.drew = wd at *
      refine anyL_tk (i := 0) (v := ?v0_41) aZ0 (by kernel_rfl) ?y0_41 HS ?r0_41
      case y0_41 => intro wx hx; obtain ⟨h0, h1, h2⟩ := hx; go_simp; try (with_reducible rfl)
      simp only [Act.put, List.setIfInBounds_toArray, List.set_cons_zero, List.set_cons_succ]
      refine anyL_tk (i := 1) (v := ?v1_42) aZ1 (by kernel_rfl) ?y1_42 HS ?r1_42
      case y1_42 => intro wx hx; obtain ⟨h0, h1, h2⟩ := hx; go_simp; try (with_reducible rfl)
      simp only [Act.put, List.setIfInBounds_toArray, List.set_cons_zero, List.set_cons_succ]
      refine anyL_tk (i := 2) (v := ?v2_43) aZ2 (by kernel_rfl) ?y2_43 HS ?r2_43
      case y2_43 => intro wx hx; obtain ⟨h0, h1, h2⟩ := hx; go_simp; try (with_reducible rfl)
      simp only [Act.put, List.setIfInBounds_toArray, List.set_cons_zero, List.set_cons_succ]
      refine anyL_tk (i := 3) (v := ?v3_44) aZ3 (by kernel_rfl) ?y3_44 HS ?r3_44
      case y3_44 => intro wx hx; obtain ⟨h0, h1, h2⟩ := hx; go_simp; try (with_reducible rfl)
      simp only [Act.put, List.setIfInBounds_toArray, List.set_cons_zero, List.set_cons_succ]
      try simp only [D1]
      refine anyL_tk (i := 4) (v := ?v4_45) aZ4 (by kernel_rfl) ?y4_45 HS ?r4_45
      case y4_45 => intro wx hx; obtain ⟨h0, h1, h2⟩ := hx; go_simp; try (with_reducible rfl)
      simp only [Act.put, List.setIfInBounds_toArray, List.set_cons_zero, List.set_cons_succ]
      refine anyL_tg (i := 5) (v := ?v5_132) aZ5 (by kernel_rfl) ?y5_132 HS ?r5_132
      case y5_132 => intro wx hx; obtain ⟨h0, h1, h2⟩ := hx; go_simp; try (with_reducible rfl)
      simp only [Act.put, List.setIfInBounds_toArray, List.set_cons_zero, List.set_cons_succ]
      refine anyL_tg (i := 6) (v := ?v6_133) aZ6 (by kernel_rfl) ?y6_133 HS ?r6_133
      case y6_133 => intro wx hx; obtain ⟨h0, h1, h2⟩ := hx; go_simp; try (with_reducible rfl)
      simp only [Act.put, List.setIfInBounds_toArray, List.set_cons_zero, List.set_cons_succ]
      refine anyL_tg (i := 7) (v := ?v7_134) aZ7 (by kernel_rfl) ?y7_134 HS ?r7_134
      case y7_134 => intro wx hx; obtain ⟨h0, h1, h2⟩ := hx; go_simp; try (with_reducible rfl)
      simp only [Act.put, List.setIfInBounds_toArray, List.set_cons_zero, List.set_cons_succ]
      refine anyL_tg (i := 8) (v := ?v8_135) aZ8 (by kernel_rfl) ?y8_135 HS ?r8_135
      case y8_135 => intro wx hx; obtain ⟨h0, h1, h2⟩ := hx; go_simp; try (with_reducible rfl)
      simp only [Act.put, List.setIfInBounds_toArray, List.set_cons_zero, List.set_cons_succ]
      refine anyL_tg (i := 9) (v := ?v9_136) aZ9 (by kernel_rfl) ?y9_136 HS ?r9_136
      case y9_136 => intro wx hx; obtain ⟨h0, h1, h2⟩ := hx; go_simp; try (with_reducible rfl)
      simp only [Act.put, List.setIfInBounds_toArray, List.set_cons_zero, List.set_cons_succ]
      refine anyL_tg (i := 10) (v := ?v10_137) aZ10 (by kernel_rfl) ?y10_137 HS ?r10_137
      case y10_137 => intro wx hx; obtain ⟨h0, h1, h2⟩ := hx; go_simp; try (with_reducible rfl)
      simp only [Act.put, List.setIfInBounds_toArray, List.set_cons_zero, List.set_cons_succ]
      refine anyL_tg (i := 11) (v := ?v11_138) aZ11 (by kernel_rfl) ?y11_138 HS ?r11_138
      case y11_138 => intro wx hx; obtain ⟨h0, h1, h2⟩ := hx; go_simp; try (with_reducible rfl)
      simp only [Act.put, List.setIfInBounds_toArray, List.set_cons_zero, List.set_cons_succ]
      refine anyL_tg (i := 12) (v := ?v12_139) aZ12 (by kernel_rfl) ?y12_139 HS ?r12_139
      case y12_139 => intro wx hx; obtain ⟨h0, h1, h2⟩ := hx; go_simp; try (with_reducible rfl)
      simp only [Act.put, List.setIfInBounds_toArray, List.set_cons_zero, List.set_cons_succ]
      refine anyL_tg (i := 13) (v := ?v13_140) aZ13 (by kernel_rfl) ?y13_140 HS ?r13_140
      case y13_140 => intro wx hx; obtain ⟨h0, h1, h2⟩ := hx; go_simp; try (with_reducible rfl)
      simp only [Act.put, List.setIfInBounds_toArray, List.set_cons_zero, List.set_cons_succ]
      try simp only [D3]
      refine anyL_tk (i := 14) (v := ?v14_46) aZ14 (by kernel_rfl) ?y14_46 HS ?r14_46
      case y14_46 => intro wx hx; obtain ⟨h0, h1, h2⟩ := hx; go_simp; try (with_reducible rfl)
      simp only [Act.put, List.setIfInBounds_toArray, List.set_cons_zero, List.set_cons_succ]
      refine anyL_tk (i := 15) (v := ?v15_47) aZ15 (by kernel_rfl) ?y15_47 HS ?r15_47
      case y15_47 => intro wx hx; obtain ⟨h0, h1, h2⟩ := hx; go_simp; try (with_reducible rfl)
      simp only [Act.put, List.setIfInBounds_toArray, List.set_cons_zero, List.set_cons_succ]
      refine anyL_tg (i := 16) (v := ?v16_141) aZ16 (by kernel_rfl) ?y16_141 HS ?r16_141
      case y16_141 => intro wx hx; obtain ⟨h0, h1, h2⟩ := hx; go_simp; try (with_reducible rfl)
      simp only [Act.put, List.setIfInBounds_toArray, List.set_cons_zero, List.set_cons_succ]
      refine anyL_tg (i := 17) (v := ?v17_142) aZ17 (by kernel_rfl) ?y17_142 HS ?r17_142
      case y17_142 => intro wx hx; obtain ⟨h0, h1, h2⟩ := hx; go_simp; try (with_reducible rfl)
      simp only [Act.put, List.setIfInBounds_toArray, List.set_cons_zero, List.set_cons_succ]
      try simp only [D2, D2n]
      refine anyL_tg (i := 18) (v := ?v18_143) aZ18 (by kernel_rfl) ?y18_143 HS ?r18_143
      case y18_143 => intro wx hx; obtain ⟨h0, h1, h2⟩ := hx; go_simp; try (with_reducible rfl)
      simp only [Act.put, List.setIfInBounds_toArray, List.set_cons_zero, List.set_cons_succ]
      refine anyL_tg (i := 19) (v := ?v19_144) aZ19 (by kernel_rfl) ?y19_144 HS ?r19_144
      case y19_144 => intro wx hx; obtain ⟨h0, h1, h2⟩ := hx; go_simp; try (with_reducible rfl)
      simp only [Act.put, List.setIfInBounds_toArray, List.set_cons_zero, List.set_cons_succ]
      refine anyL_tg (i := 20) (v := ?v20_145) aZ20 (by kernel_rfl) ?y20_145 HS ?r20_145
      case y20_145 => intro wx hx; obtain ⟨h0, h1, h2⟩ := hx; go_simp; try (with_reducible rfl)
      simp only [Act.put, List.setIfInBounds_toArray, List.set_cons_zero, List.set_cons_succ]
      refine anyL_tg (i := 21) (v := ?v21_146) aZ21 (by kernel_rfl) ?y21_146 HS ?r21_146
      case y21_146 => intro wx hx; obtain ⟨h0, h1, h2⟩ := hx; go_simp; try (with_reducible rfl)
      simp only [Act.put, List.setIfInBounds_toArray, List.set_cons_zero, List.set_cons_succ]
      refine anyL_tg (i := 22) (v := ?v22_147) aZ22 (by kernel_rfl) ?y22_147 HS ?r22_147
      case y22_147 => intro wx hx; obtain ⟨h0, h1, h2⟩ := hx; go_simp; try (with_reducible rfl)
      simp only [Act.put, List.setIfInBounds_toArray, List.set_cons_zero, List.set_cons_succ]
      refine anyL_tg (i := 23) (v := ?v23_148) aZ23 (by kernel_rfl) ?y23_148 HS ?r23_148
      case y23_148 => intro wx hx; obtain ⟨h0, h1, h2⟩ := hx; go_simp; try (with_reducible rfl)
      simp only [Act.put, List.setIfInBounds_toArray, List.set_cons_zero, List.set_cons_succ]
      refine anyL_tg (i := 24) (v := ?v24_149) aZ24 (by kernel_rfl) ?y24_149 HS ?r24_149
      case y24_149 => intro wx hx; obtain ⟨h0, h1, h2⟩ := hx; go_simp; try (with_reducible rfl)
      simp only [Act.put, List.setIfInBounds_toArray, List.set_cons_zero, List.set_cons_succ]
      refine anyL_tg (i := 25) (v := ?v25_150) aZ25 (by kernel_rfl) ?y25_150 HS ?r25_150
      case y25_150 => intro wx hx; obtain ⟨h0, h1, h2⟩ := hx; go_simp; try (with_reducible rfl)
      simp only [Act.put, List.setIfInBounds_toArray, List.set_cons_zero, List.set_cons_succ]
      refine anyL_tg (i := 26) (v := ?v26_151) aZ26 (by kernel_rfl) ?y26_151 HS ?r26_151
      case y26_151 => intro wx hx; obtain ⟨h0, h1, h2⟩ := hx; go_simp; try (with_reducible rfl)
      simp only [Act.put, List.setIfInBounds_toArray, List.set_cons_zero, List.set_cons_succ]
      refine anyL_tg (i := 27) (v := ?v27_152) aZ27 (by kernel_rfl) ?y27_152 HS ?r27_152
      case y27_152 => intro wx hx; obtain ⟨h0, h1, h2⟩ := hx; go_simp; try (with_reducible rfl)
      simp only [Act.put, List.setIfInBounds_toArray, List.set_cons_zero, List.set_cons_succ]
      refine anyL_tg (i := 28) (v := ?v28_153) aZ28 (by kernel_rfl) ?y28_153 HS ?r28_153
      case y28_153 => intro wx hx; obtain ⟨h0, h1, h2⟩ := hx; go_simp; try (with_reducible rfl)
      simp only [Act.put, List.setIfInBounds_toArray, List.set_cons_zero, List.set_cons_succ]
      try simp only [D5]
      refine anyL_tg (i := 29) (v := ?v29_154) aZ29 (by kernel_rfl) ?y29_154 HS ?r29_154
      case y29_154 => intro wx hx; obtain ⟨h0, h1, h2⟩ := hx; go_simp; try (with_reducible rfl)
      simp only [Act.put, List.setIfInBounds_toArray, List.set_cons_zero, List.set_cons_succ]
      refine anyL_tk (i := 30) (v := ?v30_48) aZ30 (by kernel_rfl) ?y30_48 HS ?r30_48
      case y30_48 => intro wx hx; obtain ⟨h0, h1, h2⟩ := hx; go_simp; try (with_reducible rfl)
      simp only [Act.put, List.setIfInBounds_toArray, List.set_cons_zero, List.set_cons_succ]
      refine anyL_done (by kernel_rfl) (NoPanic.normal ?_)
      try simp only [Act.put, List.setIfInBounds_toArray, List.set_cons_zero, List.set_cons_succ]
      clear HS
      go_wp2
      go_roundw
      case rel => exact ⟨i + 1, by omega, by go_num, HBd.out⟩
      case measure => simp [intOf]; omega
    ·have d1 : (la : Int) ≤ (i : Int) := by omega
     by_cases hi0 : i = 0
     ·have d2 : (i : Int) ≤ (0 : Int) := by omega
      generalize el B i = x1 at *
      clear hi0 hb1
      have D1 : decide ((i : Int) < (la : Int)) = false := decide_eq_false (by omega)
      have D2 : decide ((0 : Int) < (i : Int)) = false := decide_eq_false (by omega)
      have D2n : decide (0 < i) = false := decide_eq_false (by omega)
      go_wp2
      have HS : HeldC3 ⟨bb, ob + i, none⟩ ⟨bb, ob + i, none⟩ ⟨bb, ob + i, none⟩ (.int .i64 x1) (.int .i64 x1) (.int .i64 x1) wr.drew := ⟨c1, c1, c1⟩
      refine region_anyL (HeldC3 ⟨bb, ob + i, none⟩ ⟨bb, ob + i, none⟩ ⟨bb, ob + i, none⟩ (.int .i64 x1) (.int .i64 x1) (.int .i64 x1)) 200 (by kernel_rfl) ?_
      have HBd : Hid (Below w4.heap.size w4 wr.drew) := hbw.out.drew
      generalize wr.drew = wd at *
      refine anyL_tk (i := 0) (v := ?v0_49) aZ0 (by kernel_rfl) ?y0_49 HS ?r0_49
      case y0_49 => intro wx hx; obtain ⟨h0, h1, h2⟩ := hx; go_simp; try (with_reducible rfl)
      simp only [Act.put, List.setIfInBounds_toArray, List.set_cons_zero, List.set_cons_succ]
      refine anyL_tk (i := 1) (v := ?v1_50) aZ1 (by kernel_rfl) ?y1_50 HS ?r1_50
      case y1_50 => intro wx hx; obtain ⟨h0, h1, h2⟩ := hx; go_simp; try (with_reducible rfl)
      simp only [Act.put, List.setIfInBounds_toArray, List.set_cons_zero, List.set_cons_succ]
      refine anyL_tk (i := 2) (v := ?v2_51) aZ2 (by kernel_rfl) ?y2_51 HS ?r2_51
      case y2_51 => intro wx hx; obtain ⟨h0, h1, h2⟩ := hx; go_simp; try (with_reducible rfl)
      simp only [Act.put, List.setIfInBounds_toArray, List.set_cons_zero, List.set_cons_succ]
      refine anyL_tk (i := 3) (v := ?v3_52) aZ3 (by kernel_rfl) ?y3_52 HS ?r3_52
      case y3_52 => intro wx hx; obtain ⟨h0, h1, h2⟩ := hx; go_simp; try (with_reducible rfl)
      simp only [Act.put, List.setIfInBounds_toArray, List.set_cons_zero, List.set_cons_succ]
      try simp only [D1]
      refine anyL_tk (i := 4) (v := ?v4_53) aZ4 (by kernel_rfl) ?y4_53 HS ?r4_53
      case y4_53 => intro wx hx; obtain ⟨h0, h1, h2⟩ := hx; go_simp; try (with_reducible rfl)
      simp only [Act.put, List.setIfInBounds_toArray, List.set_cons_zero, List.set_cons_succ]
      refine anyL_skip (i := 5) aZ5 (by kernel_rfl) (by kernel_rfl) (by kernel_rfl) (by kernel_rfl) (fun _ _ _ h => h) (by rfl) HS ?_
      try simp only [Act.put, List.setIfInBounds_toArray, List.set_cons_zero, List.set_cons_succ]
      refine anyL_skip (i := 6) aZ6 (by kernel_rfl) (by kernel_rfl) (by kernel_rfl) (by kernel_rfl) (fun _ _ _ h => h) (by rfl) HS ?_
      try simp only [Act.put, List.setIfInBounds_toArray, List.set_cons_zero, List.set_cons_succ]
      refine anyL_skip (i := 7) aZ7 (by kernel_rfl) (by kernel_rfl) (by kernel_rfl) (by kernel_rfl) (fun _ _ _ h => h) (by rfl) HS ?_
      try simp only [Act.put, List.setIfInBounds_toArray, List.set_cons_zero, List.set_cons_succ]
      refine anyL_skip (i := 8) aZ8 (by kernel_rfl) (by kernel_rfl) (by kernel_rfl) (by kernel_rfl) (fun _ _ _ h => h) (by rfl) HS ?_
      try simp only [Act.put, List.setIfInBounds_toArray, List.set_cons_zero, List.set_cons_succ]
      refine anyL_skip (i := 9) aZ9 (by kernel_rfl) (by kernel_rfl) (by kernel_rfl) (by kernel_rfl) (fun _ _ _ h => h) (by rfl) HS ?_
      try simp only [Act.put, List.setIfInBounds_toArray, List.set_cons_zero, List.set_cons_succ]
      refine anyL_skip (i := 10) aZ10 (by kernel_rfl) (by kernel_rfl) (by kernel_rfl) (by kernel_rfl) (fun _ _ _ h => h) (by rfl) HS ?_
      try simp only [Act.put, List.setIfInBounds_toArray, List.set_cons_zero, List.set_cons_succ]
      refine anyL_skip (i := 11) aZ11 (by kernel_rfl) (by kernel_rfl) (by kernel_rfl) (by kernel_rfl) (fun _ _ _ h => h) (by rfl) HS ?_
      try simp only [Act.put, List.setIfInBounds_toArray, List.set_cons_zero, List.set_cons_succ]
      refine anyL_skip (i := 12) aZ12 (by kernel_rfl) (by kernel_rfl) (by kernel_rfl) (by kernel_rfl) (fun _ _ _ h => h) (by rfl) HS ?_
      try simp only [Act.put, List.setIfInBounds_toArray, List.set_cons_zero, List.set_cons_succ]
      refine anyL_skip (i := 13) aZ13 (by kernel_rfl) (by kernel_rfl) (by kernel_rfl) (by kernel_rfl) (fun _ _ _ h => h) (by rfl) HS ?_
      try simp only [Act.put, List.setIfInBounds_toArray, List.set_cons_zero, List.set_cons_succ]
      refine anyL_tk (i := 14) (v := ?v14_54) aZ14 (by kernel_rfl) ?y14_54 HS ?r14_54
      case y14_54 => intro wx hx; obtain ⟨h0, h1, h2⟩ := hx; go_simp; try (with_reducible rfl)
      simp only [Act.put, List.setIfInBounds_toArray, List.set_cons_zero, List.set_cons_succ]
      refine anyL_tk (i := 15) (v := ?v15_55) aZ15 (by kernel_rfl) ?y15_55 HS ?r15_55
      case y15_55 => intro wx hx; obtain ⟨h0, h1, h2⟩ := hx; go_simp; try (with_reducible rfl)
      simp only [Act.put, List.setIfInBounds_toArray, List.set_cons_zero, List.set_cons_succ]
      refine anyL_tg (i := 16) (v := ?v16_155) aZ16 (by kernel_rfl) ?y16_155 HS ?r16_155
      case y16_155 => intro wx hx; obtain ⟨h0, h1, h2⟩ := hx; go_simp; try (with_reducible rfl)
      simp only [Act.put, List.setIfInBounds_toArray, List.set_cons_zero, List.set_cons_succ]
      refine anyL_tg (i := 17) (v := ?v17_156) aZ17 (by kernel_rfl) ?y17_156 HS ?r17_156
      case y17_156 => intro wx hx; obtain ⟨h0, h1, h2⟩ := hx; go_simp; try (with_reducible rfl)
      simp only [Act.put, List.setIfInBounds_toArray, List.set_cons_zero, List.set_cons_succ]
      try simp only [D2, D2n]
      refine anyL_tg (i := 18) (v := ?v18_157) aZ18 (by kernel_rfl) ?y18_157 HS ?r18_157
      case y18_157 => intro wx hx; obtain ⟨h0, h1, h2⟩ := hx; go_simp; try (with_reducible rfl)
      simp only [Act.put, List.setIfInBounds_toArray, List.set_cons_zero, List.set_cons_succ]
      refine anyL_skip (i := 19) aZ19 (by kernel_rfl) (by kernel_rfl) (by kernel_rfl) (by kernel_rfl) (fun _ _ _ h => h) (by rfl) HS ?_
      try simp only [Act.put, List.setIfInBounds_toArray, List.set_cons_zero, List.set_cons_succ]
      refine anyL_skip (i := 20) aZ20 (by kernel_rfl) (by kernel_rfl) (by kernel_rfl) (by kernel_rfl) (fun _ _ _ h => h) (by rfl) HS ?_
      try simp only [Act.put, List.setIfInBounds_toArray, List.set_cons_zero, List.set_cons_succ]
      refine anyL_skip (i := 21) aZ21 (by kernel_rfl) (by kernel_rfl) (by kernel_rfl) (by kernel_rfl) (fun _ _ _ h => h) (by rfl) HS ?_
      try simp only [Act.put, List.setIfInBounds_toArray, List.set_cons_zero, List.set_cons_succ]
      refine anyL_skip (i := 22) aZ22 (by kernel_rfl) (by kernel_rfl) (by kernel_rfl) (by kernel_rfl) (fun _ _ _ h => h) (by rfl) HS ?_
      try simp only [Act.put, List.setIfInBounds_toArray, List.set_cons_zero, List.set_cons_succ]
      refine anyL_skip (i := 23) aZ23 (by kernel_rfl) (by kernel_rfl) (by kernel_rfl) (by kernel_rfl) (fun _ _ _ h => h) (by rfl) HS ?_
      try simp only [Act.put, List.setIfInBounds_toArray, List.set_cons_zero, List.set_cons_succ]
      refine anyL_skip (i := 24) aZ24 (by kernel_rfl) (by kernel_rfl) (by kernel_rfl) (by kernel_rfl) (fun _ _ _ h => h) (by rfl) HS ?_
      try simp only [Act.put, List.setIfInBounds_toArray, List.set_cons_zero, List.set_cons_succ]
      refine anyL_skip (i := 25) aZ25 (by kernel_rfl) (by kernel_rfl) (by kernel_rfl) (by kernel_rfl) (fun _ _ _ h => h) (by rfl) HS ?_
      try simp only [Act.put, List.setIfInBounds_toArray, List.set_cons_zero, List.set_cons_succ]
      refine anyL_skip (i := 26) aZ26 (by kernel_rfl) (by kernel_rfl) (by kernel_rfl) (by kernel_rfl) (fun _ _ _ h => h) (by rfl) HS ?_
      try simp only [Act.put, List.setIfInBounds_toArray, List.set_cons_zero, List.set_cons_succ]
      refine anyL_skip (i := 27) aZ27 (by kernel_rfl) (by kernel_rfl) (by kernel_rfl) (by kernel_rfl) (fun _ _ _ h => h) (by rfl) HS ?_
      try simp only [Act.put, List.setIfInBounds_toArray, List.set_cons_zero, List.set_cons_succ]
      refine anyL_skip (i := 28) aZ28 (by kernel_rfl) (by kernel_rfl) (by kernel_rfl) (by kernel_rfl) (fun _ _ _ h => h) (by rfl) HS ?_
      try simp only [Act.put, List.setIfInBounds_toArray, List.set_cons_zero, List.set_cons_succ]
      refine anyL_tg (i := 29) (v := ?v29_158) aZ29 (by kernel_rfl) ?y29_158 HS ?r29_158
      case y29_158 => intro wx hx; obtain ⟨h0, h1, h2⟩ := hx; go_simp; try (with_reducible rfl)
      simp only [Act.put, List.setIfInBounds_toArray, List.set_cons_zero, List.set_cons_succ]
      refine anyL_tk (i := 30) (v := ?v30_56) aZ30 (by kernel_rfl) ?y30_56 HS ?r30_56
      case y30_56 => intro wx hx; obtain ⟨h0, h1, h2⟩ := hx; go_simp; try (with_reducible rfl)
      simp only [Act.put, List.setIfInBounds_toArray, List.set_cons_zero, List.set_cons_succ]
      refine anyL_done (by kernel_rfl) (NoPanic.normal ?_)
      try simp only [Act.put, List.setIfInBounds_toArray, List.set_cons_zero, List.set_cons_succ]
      clear HS
      go_wp2
      go_roundw
      case rel => exact ⟨i + 1, by omega, by go_num, HBd.out⟩
      case measure => simp [intOf]; omega
     ·obtain ⟨j, hj⟩ : ∃ j, i = j + 1 := ⟨i - 1, by omega⟩
      have d2 : (0 : Int) < (i : Int) := by omega
      obtain ⟨b3, o3, hal, hb3, c3⟩ := GB.out j (by omega)
      have hal := addrC hal
      obtain ⟨rfl, rfl⟩ := hal
      have c3 := (hbw.out.cell (p := ⟨bb, ob + j, none⟩) hb3).trans c3
      have k5 : IntKind.i64.wrap ((i : Int) - 1) = (j : Int) := by rw [wrapI (by omega) (by omega)]; omega
      have k6 : (0 : Int) ≤ (j : Int) := by omega
      have k7 : (j : Int) < (lb : Int) := by omega
      have d4 := ris_step HBR.out (i := j) (by rw [HLB.out]; omega)
      rw [← hj] at d4
      have HJ := hidP hj
      generalize el B i = x1 at *
      generalize el B j = x2 at *
      have d5 : x2 ≤ x1 := d4
      clear hi0 hb1 hb3 hj d4
      have D1 : decide ((i : Int) < (la : Int)) = false := decide_eq_false (by omega)
      have D2 : decide ((0 : Int) < (i : Int)) = true := decide_eq_true d2
      have D2n : decide (0 < i) = true := decide_eq_true (by omega)
      have D5 : decide (x1 < x2) = false := decide_eq_false (by omega)
      go_wp2
      have HS : HeldC3 ⟨bb, ob + i, none⟩ ⟨bb, ob + i, none⟩ ⟨bb, ob + j, none⟩ (.int .i64 x1) (.int .i64 x1) (.int .i64 x2) wr.drew := ⟨c1, c1, c3⟩
      refine region_anyL (HeldC3 ⟨bb, ob + i, none⟩ ⟨bb, ob + i, none⟩ ⟨bb, ob + j, none⟩ (.int .i64 x1) (.int .i64 x1) (.int .i64 x2)) 200 (by kernel_rfl) ?_
      have HBd : Hid (Below w4.heap.size w4 wr.drew) := hbw.out.drew
      generalize wr.drew = wd at *
      refine anyL_tk (i := 0) (v := ?v0_57) aZ0 (by kernel_rfl) ?y0_57 HS ?r0_57
      case y0_57 => intro wx hx; obtain ⟨h0, h1, h2⟩ := hx; go_simp; try (with_reducible rfl)
      simp only [Act.put, List.setIfInBounds_toArray, List.set_cons_zero, List.set_cons_succ]
      refine anyL_tk (i := 1) (v := ?v1_58) aZ1 (by kernel_rfl) ?y1_58 HS ?r1_58
      case y1_58 => intro wx hx; obtain ⟨h0, h1, h2⟩ := hx; go_simp; try (with_reducible rfl)
      simp only [Act.put, List.setIfInBounds_toArray, List.set_cons_zero, List.set_cons_succ]
      refine anyL_tk (i := 2) (v := ?v2_59) aZ2 (by kernel_rfl) ?y2_59 HS ?r2_59
      case y2_59 => intro wx hx; obtain ⟨h0, h1, h2⟩ := hx; go_simp; try (with_reducible rfl)
      simp only [Act.put, List.setIfInBounds_toArray, List.set_cons_zero, List.set_cons_succ]
      refine anyL_tk (i := 3) (v := ?v3_60) aZ3 (by kernel_rfl) ?y3_60 HS ?r3_60
      case y3_60 => intro wx hx; obtain ⟨h0, h1, h2⟩ := hx; go_simp; try (with_reducible rfl)
      simp only [Act.put, List.setIfInBounds_toArray, List.set_cons_zero, List.set_cons_succ]
      try simp only [D1]
      refine anyL_tk (i := 4) (v := ?v4_61) aZ4 (by kernel_rfl) ?y4_61 HS ?r4_61
      case y4_61 => intro wx hx; obtain ⟨h0, h1, h2⟩ := hx; go_simp; try (with_reducible rfl)
      simp only [Act.put, List.setIfInBounds_toArray, List.set_cons_zero, List.set_cons_succ]
      refine anyL_skip (i := 5) aZ5 (by kernel_rfl) (by kernel_rfl) (by kernel_rfl) (by kernel_rfl) (fun _ _ _ h => h) (by rfl) HS ?_
      try simp only [Act.put, List.setIfInBounds_toArray, List.set_cons_zero, List.set_cons_succ]
      refine anyL_skip (i := 6) aZ6 (by kernel_rfl) (by kernel_rfl) (by kernel_rfl) (by kernel_rfl) (fun _ _ _ h => h) (by rfl) HS ?_
      try simp only [Act.put, List.setIfInBounds_toArray, List.set_cons_zero, List.set_cons_succ]
      refine anyL_skip (i := 7) aZ7 (by kernel_rfl) (by kernel_rfl) (by kernel_rfl) (by kernel_rfl) (fun _ _ _ h => h) (by rfl) HS ?_
      try simp only [Act.put, List.setIfInBounds_toArray, List.set_cons_zero, List.set_cons_succ]
      refine anyL_skip (i := 8) aZ8 (by kernel_rfl) (by kernel_rfl) (by kernel_rfl) (by kernel_rfl) (fun _ _ _ h => h) (by rfl) HS ?_
      try simp only [Act.put, List.setIfInBounds_toArray, List.set_cons_zero, List.set_cons_succ]
      refine anyL_skip (i := 9) aZ9 (by kernel_rfl) (by kernel_rfl) (by kernel_rfl) (by kernel_rfl) (fun _ _ _ h => h) (by rfl) HS ?_
      try simp only [Act.put, List.setIfInBounds_toArray, List.set_cons_zero, List.set_cons_succ]
      refine anyL_skip (i := 10) aZ10 (by kernel_rfl) (by kernel_rfl) (by kernel_rfl) (by kernel_rfl) (fun _ _ _ h => h) (by rfl) HS ?_
      try simp only [Act.put, List.setIfInBounds_toArray, List.set_cons_zero, List.set_cons_succ]
      refine anyL_skip (i := 11) aZ11 (by kernel_rfl) (by kernel_rfl) (by kernel_rfl) (by kernel_rfl) (fun _ _ _ h => h) (by rfl) HS ?_
      try simp only [Act.put, List.setIfInBounds_toArray, List.set_cons_zero, List.set_cons_succ]
      refine anyL_skip (i := 12) aZ12 (by kernel_rfl) (by kernel_rfl) (by kernel_rfl) (by kernel_rfl) (fun _ _ _ h => h) (by rfl) HS ?_
      try simp only [Act.put, List.setIfInBounds_toArray, List.set_cons_zero, List.set_cons_succ]
      refine anyL_skip (i := 13) aZ13 (by kernel_rfl) (by kernel_rfl) (by kernel_rfl) (by kernel_rfl) (fun _ _ _ h => h) (by rfl) HS ?_
      try simp only [Act.put, List.setIfInBounds_toArray, List.set_cons_zero, List.set_cons_succ]
      refine anyL_tk (i := 14) (v := ?v14_62) aZ14 (by kernel_rfl) ?y14_62 HS ?r14_62
      case y14_62 => intro wx hx; obtain ⟨h0, h1, h2⟩ := hx; go_simp; try (with_reducible rfl)
      simp only [Act.put, List.setIfInBounds_toArray, List.set_cons_zero, List.set_cons_succ]
      refine anyL_tk (i := 15) (v := ?v15_63) aZ15 (by kernel_rfl) ?y15_63 HS ?r15_63
      case y15_63 => intro wx hx; obtain ⟨h0, h1, h2⟩ := hx; go_simp; try (with_reducible rfl)
      simp only [Act.put, List.setIfInBounds_toArray, List.set_cons_zero, List.set_cons_succ]
      refine anyL_tg (i := 16) (v := ?v16_159) aZ16 (by kernel_rfl) ?y16_159 HS ?r16_159
      case y16_159 => intro wx hx; obtain ⟨h0, h1, h2⟩ := hx; go_simp; try (with_reducible rfl)
      simp only [Act.put, List.setIfInBounds_toArray, List.set_cons_zero, List.set_cons_succ]
      refine anyL_tg (i := 17) (v := ?v17_160) aZ17 (by kernel_rfl) ?y17_160 HS ?r17_160
      case y17_160 => intro wx hx; obtain ⟨h0, h1, h2⟩ := hx; go_simp; try (with_reducible rfl)
      simp only [Act.put, List.setIfInBounds_toArray, List.set_cons_zero, List.set_cons_succ]
      try simp only [D2, D2n]
      refine anyL_tg (i := 18) (v := ?v18_161) aZ18 (by kernel_rfl) ?y18_161 HS ?r18_161
      case y18_161 => intro wx hx; obtain ⟨h0, h1, h2⟩ := hx; go_simp; try (with_reducible rfl)
      simp only [Act.put, List.setIfInBounds_toArray, List.set_cons_zero, List.set_cons_succ]
      refine anyL_tg (i := 19) (v := ?v19_162) aZ19 (by kernel_rfl) ?y19_162 HS ?r19_162
      case y19_162 => intro wx hx; obtain ⟨h0, h1, h2⟩ := hx; go_simp; try (with_reducible rfl)
      simp only [Act.put, List.setIfInBounds_toArray, List.set_cons_zero, List.set_cons_succ]
      refine anyL_tg (i := 20) (v := ?v20_163) aZ20 (by kernel_rfl) ?y20_163 HS ?r20_163
      case y20_163 => intro wx hx; obtain ⟨h0, h1, h2⟩ := hx; go_simp; try (with_reducible rfl)
      simp only [Act.put, List.setIfInBounds_toArray, List.set_cons_zero, List.set_cons_succ]
      refine anyL_tg (i := 21) (v := ?v21_164) aZ21 (by kernel_rfl) ?y21_164 HS ?r21_164
      case y21_164 => intro wx hx; obtain ⟨h0, h1, h2⟩ := hx; go_simp; try (with_reducible rfl)
      simp only [Act.put, List.setIfInBounds_toArray, List.set_cons_zero, List.set_cons_succ]
      refine anyL_tg (i := 22) (v := ?v22_165) aZ22 (by kernel_rfl) ?y22_165 HS ?r22_165
      case y22_165 => intro wx hx; obtain ⟨h0, h1, h2⟩ := hx; go_simp; try (with_reducible rfl)
      simp only [Act.put, List.setIfInBounds_toArray, List.set_cons_zero, List.set_cons_succ]
      refine anyL_tg (i := 23) (v := ?v23_166) aZ23 (by kernel_rfl) ?y23_166 HS ?r23_166
      case y23_166 => intro wx hx; obtain ⟨h0, h1, h2⟩ := hx; go_simp; try (with_reducible rfl)
      simp only [Act.put, List.setIfInBounds_toArray, List.set_cons_zero, List.set_cons_succ]
      refine anyL_tg (i := 24) (v := ?v24_167) aZ24 (by kernel_rfl) ?y24_167 HS ?r24_167
      case y24_167 => intro wx hx; obtain ⟨h0, h1, h2⟩ := hx; go_simp; try (with_reducible rfl)
      simp only [Act.put, List.setIfInBounds_toArray, List.set_cons_zero, List.set_cons_succ]
      refine anyL_tg (i := 25) (v := ?v25_168) aZ25 (by kernel_rfl) ?y25_168 HS ?r25_168
      case y25_168 => intro wx hx; obtain ⟨h0, h1, h2⟩ := hx; go_simp; try (with_reducible rfl)
      simp only [Act.put, List.setIfInBounds_toArray, List.set_cons_zero, List.set_cons_succ]
      refine anyL_tg (i := 26) (v := ?v26_169) aZ26 (by kernel_rfl) ?y26_169 HS ?r26_169
      case y26_169 => intro wx hx; obtain ⟨h0, h1, h2⟩ := hx; go_simp; try (with_reducible rfl)
      simp only [Act.put, List.setIfInBounds_toArray, List.set_cons_zero, List.set_cons_succ]
      refine anyL_tg (i := 27) (v := ?v27_170) aZ27 (by kernel_rfl) ?y27_170 HS ?r27_170
      case y27_170 => intro wx hx; obtain ⟨h0, h1, h2⟩ := hx; go_simp; try (with_reducible rfl)
      simp only [Act.put, List.setIfInBounds_toArray, List.set_cons_zero, List.set_cons_succ]
      refine anyL_tg (i := 28) (v := ?v28_171) aZ28 (by kernel_rfl) ?y28_171 HS ?r28_171
      case y28_171 => intro wx hx; obtain ⟨h0, h1, h2⟩ := hx; go_simp; try (with_reducible rfl)
      simp only [Act.put, List.setIfInBounds_toArray, List.set_cons_zero, List.set_cons_succ]
      try simp only [D5]
      refine anyL_tg (i := 29) (v := ?v29_172) aZ29 (by kernel_rfl) ?y29_172 HS ?r29_172
      case y29_172 => intro wx hx; obtain ⟨h0, h1, h2⟩ := hx; go_simp; try (with_reducible rfl)
      simp only [Act.put, List.setIfInBounds_toArray, List.set_cons_zero, List.set_cons_succ]
      refine anyL_tk (i := 30) (v := ?v30_64) aZ30 (by kernel_rfl) ?y30_64 HS ?r30_64
      case y30_64 => intro wx hx; obtain ⟨h0, h1, h2⟩ := hx; go_simp; try (with_reducible rfl)
      simp only [Act.put, List.setIfInBounds_toArray, List.set_cons_zero, List.set_cons_succ]
      refine anyL_done (by kernel_rfl) (NoPanic.normal ?_)
      try simp only [Act.put, List.setIfInBounds_toArray, List.set_cons_zero, List.set_cons_succ]
      clear HS
      go_wp2
      go_roundw
      case rel => exact ⟨i + 1, by omega, by go_num, HBd.out⟩
      case measure => simp [intOf]; omega
   ·have k1 : (lb : Int) ≤ (i : Int) := by omega
    go_wp2
    go_ret
    exact ⟨rfl, HB4.out.trans (hbw.out.mono HB4.out.size)⟩
theorem walk (vx : Value) (rx : Rw) (p : Int) (w : World) (hx : RawV w vx rx ∧ okR rx ∧ wfR rx) (hp : (Lit.int .i64 p).wf = true) :
 Calls Try.prog 6 #[vx, .int .i64 p] w fun e w' => e = .returned (.bool true) ∧ Below w.heap.size w w' := core vx rx p w hx hp
set_option maxRecDepth 100000 in
theorem lifted (os : Os) (started : os.Started) (H : Type) (enc : TypeId × Value → H) :
  ReturnsInHanded {} Try.checked os 6 .any (Rows.costsRiseSpec.pre6 enc Try.prog Try.f6 Rows.costsRiseRow.domain false) (Rows.costsRiseSpec.post enc Try.prog Try.f6 false true false false) := by
 refine returnsInHanded_of_change_sized (C := Try.checked) own started (by kernel_rfl) Try.func6
  (ChangeSpec.witness6 (enc := enc) (C := Try.checked) false ⟨#[], #[.agg #[.int .i64 0, .slice none 0 0], .int .i64 0], []⟩ 8 (by kernel_rfl) (by kernel_rfl) (by kernel_rfl) (by kernel_rfl)) ?_
 intro W base args ds gs before hval0 hW hcnd hsz0 _
 have hsz : (DataW.weightsEach Try.prog (Try.f6.params.toList ++ Rows.costsRiseSpec.plain.varTypes Try.prog) (ds ++ gs)).all (· ≤ reachBytes) = true := hsz0
 have hval : ∀ (j : Nat) t v, Try.f6.params[j]? = some t → args[j]? = some v → Value.okWide Try.prog W .any base t v := hval0
 clear hval0 hsz0
 have hW' := hW
 obtain ⟨p, q, hA0, hV, rfl, hfz, hnd⟩ := hW
 have hA : DataW.TrodAll enc Try.prog W 0 (fun _ => true) true Try.f6.params.toList args.toList ds p := hA0
 rw [Try.params6] at hA hval hsz
 obtain ⟨v0, vs0, d0, ds0, p0, q0, hargs, rfl, rfl, h0, r0⟩ := trodAll_cons hA
 obtain ⟨v1, vs1, d1, ds1, p1, q1, rfl, rfl, rfl, h1, r1⟩ := trodAll_cons r0
 obtain ⟨rfl, rfl, rfl⟩ := trodAll_nil r1
 obtain rfl : args = #[v0, v1] := by cases args; simp_all
 obtain ⟨rfl, rfl⟩ := trodVars_none hV
 have k0 := h0
 have lt0 : ∀ x ∈ p0, x.block < W.heap.size := by obtain ⟨m, hm⟩ := k0; exact DataW.trod_lt m _ _ _ hm
 obtain ⟨z0, w0⟩ : ∃ m : Rw, RawV W v0 m ∧ okR m ∧ wfR m := by
  obtain ⟨c0, c1, y0, y1, n, rfl, hd, hp, t0, t1⟩ := Go.Joins.open_agg2 Try.underlying24 (by kernel_rfl) (by kernel_rfl) (hval 0 24 v0 rfl rfl) h0
  subst hd
  exact open_raw t0 t1 ((Fits.arg hsz (j := 0) rfl rfl).field Try.underlying24 (f := 1) rfl rfl)
 obtain ⟨a1, rfl, rfl, rfl, w1⟩ := open_int Try.underlying3 (hval 1 3 v1 rfl rfl) h1
 refine (walk v0 z0 a1 W w0 w1).mono fun e W' ⟨he, bel⟩ => ?_
 subst he
 exact ⟨_, rfl, _, _, _, [], _, [], hW', trodAll_mk1 (shut_bool Try.underlying4 _), (trodAll_cons_mk (Below.trod laidOut (by kernel_rfl) (of_decide_eq_true (by kernel_rfl)) k0 bel lt0) (trodAll_cons_mk (shut_int Try.underlying3 w1) trodAll_mk0)), rfl, bel.frame _, fun h => by cases h⟩
end Go.Proofs.Ytfpibdaedfilaaa.costsRise
namespace Go.Proofs.Ytfpibdaedfilaaa
theorem costsRise_holds : Rows.CostsRiseSaid :=
 OpenClaim.holds_of_wide 6 Try.f6 rfl rfl rfl rfl rfl rfl rfl ⟨rfl, rfl, rfl, rfl, rfl⟩ rfl rfl rfl rfl rfl (by kernel_rfl) Try.func6 (by kernel_rfl)
  (of_decide_eq_true (by kernel_rfl)) (by unfold Func.isWrapper; first | (rw [if_pos (by decide +kernel)]; kernel_rfl) | (rw [if_neg (by decide +kernel)]; exact ⟨rfl, rfl⟩))
  (fun os started H enc _ => costsRise.lifted os started H enc)
#print axioms costsRise_holds
end Go.Proofs.Ytfpibdaedfilaaa
