/- certain.together: the arc that stands for all arcs of one pair of labels, and the set that it leads to. -/
import Derived.Test.YtfhjncpakgailaaGreatDoorMao
import Derived.Test.YtfhjncpakgailaaGreatDoorMap
import Derived.BigQuiet
import Derived.Test.YtfhjncpakgailaaGreatDoorMaj
import Derived.Test.YtfhjncpakgailaaGreatDoorMab
namespace Go.Proofs.YtfhjncpakgailaaGreatDoor.Wt
open Go.ChangeShapes Go.WideShapes Go.ChangeAt Go.RowKit
open Go.Proofs.YtfhjncpakgailaaGreatDoor.Pl
set_option linter.unusedVariables false
set_option linter.unusedSimpArgs false
theorem res_tog (tm : Array Value) (W : World) (R : Nat) (v x0 x1 x2 x3 : Value) (hB : Blk W R #[x0, x1, x2, x3] 58) (h2 : tm.getD 2 undef = .pointer (some ⟨R, 0, none⟩)) (h3 : tm.getD 3 undef = v) : (results Tryz.f103 tm).run Tryz.prog W = .ok (.tuple #[.agg #[x0, x1, x2, x3], v]) W := by
 have c0 := hB.cell 0 (v := x0) rfl
 have c1 := hB.cell 1 (v := x1) rfl
 have c2 := hB.cell 2 (v := x2) rfl
 have c3 := hB.cell 3 (v := x3) rfl
 simp only [Array.getD_eq_getD_getElem?] at h2 h3
 simp [results, Tryz.results103, go_sem, h2, h3, c0, c1, c2, c3]
def HeldTg (b o : Nat) (x0 x1 : Int) (w : World) : Prop := w.cell? ⟨b, o, none⟩ = some (.int .i64 x0) ∧ w.cell? ⟨b, o + 1, none⟩ = some (.int .i64 x1)
theorem Below.drewNT {B : Nat} {w w' : World} (h : Below B w w') (n : Nat) : Below B w (w'.drewN n) := ⟨h.os, h.tape, h.output, h.size, h.block⟩
theorem slThreeT {v : Value} {n : Nat} (h : ∃ a c, v = .slice a n c) : ∃ a k c, v = .slice a k c := by obtain ⟨a, c, e⟩ := h; exact ⟨a, n, c, e⟩
set_option maxRecDepth 100000 in
set_option maxHeartbeats 6400000 in
theorem together_any (a : Option Addr) (n cap : Nat) (g : List Ar) (w : World) (h : Arcs w (.slice a n cap) g) (hn : n = g.length) (hg : 0 < n) (hl : n ≤ 100000) (hwt : ∀ a ∈ g, 0 ≤ a.2.2.1 ∧ a.2.2.1 ≤ 2000000000000) (c : Int) (hc : mnL (g.map fun a => a.2.2.1) = c) (x0 x1 : Int) (hx0 : (el g 0).1 = x0) (hx1 : (el g 0).2.1 = x1) :
  Calls Tryz.prog 103 #[.slice a n cap] w fun e w' => ∃ vs, e = .returned (.tuple #[.agg #[.int .i64 x0, .int .i64 x1, .int .i64 c, .int .i64 0], vs]) ∧ OwnP w' w.heap.size vs (tgU g c n) ∧ Below w.heap.size w w' := by
 have HA := hidP h
 have HWT : Hid (∀ k, k < n → 0 ≤ (el g k).2.2.1 ∧ (el g k).2.2.1 ≤ 2000000000000) := fun k hk => hwt _ (el_mem (by omega))
 have HLS : Hid (∀ k, k < n → lsU g (k + 1) = if (el g k).2.2.1 < lsU g k then (el g k).2.2.1 else lsU g k) := fun k hk => lsU_succ (by omega) (by have := HWT.out k hk; unfold noneI; omega)
 have HLA : Hid (lsU g n = c) := by show _ = _; rw [hn, lsU_all (by omega)]; exact hc
 have HTU : Hid (∀ k, tgU g c (k + 1) = tgU g c k ++ (if k = 0 ∨ (el g k).2.2.2 ≠ (el g (k - 1)).2.2.2 then [((el g k).2.2.2, (el g k).2.2.1 - c)] else [])) := tgU_succ g c
 have HTL : Hid (∀ k, (tgU g c k).length ≤ k) := tgU_len g c
 have hw0 := HWT.out 0 hg
 have HL0 : Hid (lsU g 0 = (el g 0).2.2.1) := lsU_zero (by unfold noneI; omega)
 have HCB : Hid (-1000000000000000 ≤ c ∧ c ≤ 1000000000000000) := by
  have h1 := mnL_le (List.mem_map.2 ⟨el g 0, el_mem (by omega), rfl⟩ : (el g 0).2.2.1 ∈ g.map fun a => a.2.2.1)
  rcases mnL_mem (g.map fun a => a.2.2.1) with e | e
  ·rw [e] at h1; unfold noneI at h1; omega
  ·obtain ⟨a, ha, e2⟩ := List.mem_map.1 e
   have h2 := hwt a ha
   constructor <;> omega
 obtain ⟨b, off, hab, hbl, d0, d1, d2, d3⟩ := arcs_at h (j := 0) (by omega)
 subst hab
 rw [Nat.zero_mul, Nat.add_zero] at d0 d1 d2 d3
 rw [hx0] at d0
 rw [hx1] at d1
 have HAT : Hid (∀ k, k < n → w.cell? ⟨b, off + k * 4, none⟩ = some (.int .i64 (el g k).1) ∧ w.cell? ⟨b, off + k * 4 + 1, none⟩ = some (.int .i64 (el g k).2.1) ∧ w.cell? ⟨b, off + k * 4 + 2, none⟩ = some (.int .i64 (el g k).2.2.1) ∧ w.cell? ⟨b, off + k * 4 + 3, none⟩ = some (.int .i64 (el g k).2.2.2)) := fun k hk => by
  obtain ⟨b', off', hab', _, e0, e1, e2, e3⟩ := arcs_at HA.out (j := k) (by omega)
  injection hab' with hab'
  injection hab' with hb1 hb2 _
  subst hb1 hb2
  exact ⟨e0, e1, e2, e3⟩
 obtain ⟨z0, hz0⟩ : ∃ z0, (el g 0).2.2.1 = z0 := ⟨_, rfl⟩
 rw [hz0] at d2 HL0 hw0
 have HZ0 := hidP hz0
 have hA0 := (Below.refl w.heap.size w).alloc (Nat.le_refl _) (.cells #[.int .i64 0, .int .i64 0, .int .i64 0, .int .i64 0] 58)
 have W0 := hidP hA0
 have R0 := hidP (Blk.made w #[.int .i64 0, .int .i64 0, .int .i64 0, .int .i64 0] 58)
 have D0 := hidP d0
 have D1 := hidP d1
 have d2 := (hA0.cell (p := ⟨b, off + 2, none⟩) hbl).trans d2
 have n0 : (0 : Int) < (n : Int) := by omega
 have hbR : b ≠ w.heap.size := by omega
 clear hA0 h hwt hn hc hz0 hx0 hx1 d0 d1 d3 HA
 go_enter Tryz.func103, Tryz.ntmps103
 go_wp2
 clear d2
 go_loopw [4, 16] (fun s4 i wr => ∃ (k : Nat) (y : Int), k ≤ n ∧ s4 = .int .i64 y ∧ i = .int .i64 k ∧ Hid (lsU g k = y) ∧ Hid (Below w.heap.size w wr) ∧ Hid (Blk wr w.heap.size #[.int .i64 0, .int .i64 0, .int .i64 0, .int .i64 0] 58)) (fun _ i _ => n - (intOf i).toNat)
 case atStart => exact ⟨0, z0, Nat.zero_le _, rfl, rfl, HL0, W0, R0⟩
 case round =>
  clear W0 R0 HL0
  obtain ⟨k, y, hk, rfl, rfl, hy, hW, hR⟩ := hrel
  obtain ⟨w1, hw1⟩ : ∃ w1, w1 = wr := ⟨_, rfl⟩
  subst hw1
  by_cases hlt : k < n
  ·have k0 : (0 : Int) ≤ (k : Int) := Int.natCast_nonneg _
   have k1 : (k : Int) < (n : Int) := by omega
   obtain ⟨c0, c1, c2, c3⟩ := HAT.out k hlt
   have c0 := (hW.out.cell (p := ⟨b, off + k * 4, none⟩) hbl).trans c0
   have c1 := (hW.out.cell (p := ⟨b, off + k * 4 + 1, none⟩) hbl).trans c1
   have c2 := (hW.out.cell (p := ⟨b, off + k * 4 + 2, none⟩) hbl).trans c2
   have c3 := (hW.out.cell (p := ⟨b, off + k * 4 + 3, none⟩) hbl).trans c3
   have HS := hidP (HLS.out k hlt)
   rw [hy.out] at HS
   obtain ⟨x, hx⟩ : ∃ x, el g k = x := ⟨_, rfl⟩
   rw [hx] at c0 c1 c2 c3 HS
   clear hx
   obtain ⟨q0, q1, q2, q3⟩ := x
   simp only at c0 c1 c2 c3 HS
   have hA := (Below.refl w1.heap.size w1).alloc (Nat.le_refl _) (.cells #[.int .i64 q0, .int .i64 q1, .int .i64 q2, .int .i64 q3] 58)
   have W1 := hidP (hW.out.trans (hA.mono hW.out.size))
   have R1 := hidP (hR.out.alloc (.cells #[.int .i64 q0, .int .i64 q1, .int .i64 q2, .int .i64 q3] 58))
   have hbw : b < w1.heap.size := Nat.lt_of_lt_of_le hbl hW.out.size
   clear hA
   by_cases e1 : q2 < y
   ·rw [if_pos e1] at HS
    go_wp2
    go_roundw
    case rel => exact ⟨k + 1, q2, by omega, rfl, by go_num, HS, W1, R1⟩
    case measure => simp [intOf]; omega
   ·rw [if_neg e1] at HS
    go_wp2
    go_roundw
    case rel => exact ⟨k + 1, y, by omega, rfl, by go_num, HS, W1, R1⟩
    case measure => simp [intOf]; omega
  ·have hk1 : ¬ (k : Int) < (n : Int) := by omega
   obtain rfl : k = n := by omega
   obtain rfl : y = c := hy.out.symm.trans HLA.out
   clear hlt hk HLS HLA hy
   have hcb : -1000000000000000 ≤ y ∧ y ≤ 1000000000000000 := HCB.out
   have T0 := hidP (OwnP.nil w1 (w.heap.size + 1))
   go_wp2
   go_loopw [7, 27] (fun s7 i wr => ∃ (j : Nat) (vt : Value), j ≤ k ∧ vt = s7 ∧ i = .int .i64 j ∧ Hid (OwnP wr (w.heap.size + 1) vt (tgU g y j)) ∧ Hid (Below w.heap.size w wr) ∧ Hid (Blk wr w.heap.size #[.int .i64 0, .int .i64 0, .int .i64 0, .int .i64 0] 58)) (fun _ i _ => k - (intOf i).toNat)
   case atStart => exact ⟨0, _, Nat.zero_le _, rfl, rfl, T0, hW, hR⟩
   case round =>
    clear T0 hW hR
    obtain ⟨j, vt, hj, rfl, rfl, hT, hW, hR⟩ := hrel
    obtain ⟨w1, hw1⟩ : ∃ w1, w1 = wr := ⟨_, rfl⟩
    subst hw1
    by_cases hlt : j < k
    ·have j0 : (0 : Int) ≤ (j : Int) := Int.natCast_nonneg _
     have j1 : (j : Int) < (k : Int) := by omega
     obtain ⟨c0, c1, c2, c3⟩ := HAT.out j hlt
     have c0 := (hW.out.cell (p := ⟨b, off + j * 4, none⟩) hbl).trans c0
     have c1 := (hW.out.cell (p := ⟨b, off + j * 4 + 1, none⟩) hbl).trans c1
     have c2 := (hW.out.cell (p := ⟨b, off + j * 4 + 2, none⟩) hbl).trans c2
     have c3 := (hW.out.cell (p := ⟨b, off + j * 4 + 3, none⟩) hbl).trans c3
     have HS := hidP (HTU.out j)
     have hwj := HWT.out j hlt
     have hTl := HTL.out j
     obtain ⟨x, hx⟩ : ∃ x, el g j = x := ⟨_, rfl⟩
     have HXJ := hidP hx
     rw [hx] at c0 c1 c2 c3 HS hwj
     clear hx
     obtain ⟨q0, q1, q2, q3⟩ := x
     simp only at c0 c1 c2 c3 HS hwj
     have hA := (Below.refl w1.heap.size w1).alloc (Nat.le_refl _) (.cells #[.int .i64 q0, .int .i64 q1, .int .i64 q2, .int .i64 q3] 58)
     have W1 := hidP (hW.out.trans (hA.mono hW.out.size))
     have R1 := hidP (hR.out.alloc (.cells #[.int .i64 q0, .int .i64 q1, .int .i64 q2, .int .i64 q3] 58))
     have T1 := hidP (hT.out.later hA)
     have hbw : b < w1.heap.size := Nat.lt_of_lt_of_le hbl hW.out.size
     have K1 := hidP (Blk.made w1 #[.int .i64 q0, .int .i64 q1, .int .i64 q2, .int .i64 q3] 58)
     have hRl := R1.out.lt
     have hRs : w.heap.size + 1 ≤ w1.heap.size := hR.out.lt
     have hwr : IntKind.i64.wrap (q2 - y) = q2 - y := wrapI (by omega) (by omega)
     clear hA hT hW hR
     obtain ⟨w2, hw2⟩ : ∃ w2, w2 = w1.alloc (.cells #[.int .i64 q0, .int .i64 q1, .int .i64 q2, .int .i64 q3] 58) := ⟨_, rfl⟩
     have HW2 := hidP hw2
     rw [← hw2] at W1 R1 T1 K1 hRl
     clear hw2
     by_cases e0 : j = 0
     ·have e0' : ((j : Int) == 0) = true := by simp [e0]
      have HS2 : Hid (tgU g y (j + 1) = tgU g y j ++ [(q3, q2 - y)]) := by show _ = _; rw [HS.out, if_pos (.inl e0)]
      clear HS e0
      go_wp2
      go_quiet (fail)
      rw [← HW2.out]
      have T2 := hidP (T1.out.later ⟨rfl, rfl, rfl, Nat.le_refl _, fun _ _ => rfl⟩ : OwnP (w2.drewN nq) _ _ _)
      have W2 := hidP (Below.drewNT W1.out nq)
      have R2 := hidP (R1.out.drewN nq)
      have K2 := hidP (K1.out.drewN nq)
      have hs2 : (w2.drewN nq).heap.size = w2.heap.size := rfl
      obtain ⟨w3, hw3⟩ : ∃ w3, w3 = w2.drewN nq := ⟨_, rfl⟩
      rw [← hw3] at T2 W2 R2 K2 hs2 ⊢
      clear hw3 T1 W1 R1 K1
      have k2 := K2.out.cell 2 (v := .int .i64 q2) rfl
      have k3 := K2.out.cell 3 (v := .int .i64 q3) rfl
      obtain ⟨v4, w4, r4, o4, b4, g4⟩ := T2.out.push (q3, q2 - y) (by omega) (by omega)
      have R4 := hidP ((R2.out.alloc (.cells (encP (q3, q2 - y)).toArray 84)).grown g4 (own_ne (T2.out.later ((Below.refl _ _).alloc (Nat.le_refl _) (.cells (encP (q3, q2 - y)).toArray 84))) (R2.out.alloc (.cells (encP (q3, q2 - y)).toArray 84)) (by decide)))
      have W4 := hidP (W2.out.trans (b4.mono (by omega)))
      have T4 := hidP o4
      simp only [encP] at r4
      have HR4 := hidP r4
      obtain ⟨a4, n4, c4, hv4⟩ := slThreeT o4.sl
      subst hv4
      clear r4 o4 b4 g4 T2 R2 K2 hs2
      go_wp2_with (first | (at_builtin; refine wpListAppendRun rfl _ _ 86 rfl rfl rfl HR4.out ?_))
      go_roundw
      case rel => exact ⟨j + 1, _, by omega, rfl, by go_num, by rw [HS2.out]; exact T4, W4, R4⟩
      case measure => simp [intOf]; omega
     ·have e0' : ((j : Int) == 0) = false := by simp; omega
      obtain ⟨_, _, _, p3⟩ := HAT.out (j - 1) (by omega)
      have p3 := (W1.out.cell (p := ⟨b, off + (j - 1) * 4 + 3, none⟩) hbl).trans p3
      obtain ⟨t, ht⟩ : ∃ t, (el g (j - 1)).2.2.2 = t := ⟨_, rfl⟩
      rw [ht] at p3 HS
      clear ht
      have hj1 : IntKind.i64.wrap ((j : Int) - 1) = (j : Int) - 1 := wrapI (by omega) (by omega)
      have hj2 : (0 : Int) ≤ (j : Int) - 1 := by omega
      have hj3 : (j : Int) - 1 < (k : Int) := by omega
      have hj4 : ((j : Int) - 1).toNat = j - 1 := by omega
      rw [HW2.out] at p3
      by_cases e1 : q3 = t
      ·have e1' : (q3 != t) = false := by simp [e1]
       have HS2 : Hid (tgU g y (j + 1) = tgU g y j) := by show _ = _; rw [HS.out, if_neg (fun h => h.elim e0 (fun h => h e1)), List.append_nil]
       clear HS e0 e1
       go_wp2
       go_quiet (fail)
       rw [← HW2.out]
       have T2 := hidP (T1.out.later ⟨rfl, rfl, rfl, Nat.le_refl _, fun _ _ => rfl⟩ : OwnP (w2.drewN nq) _ _ _)
       have W2 := hidP (Below.drewNT W1.out nq)
       have R2 := hidP (R1.out.drewN nq)
       go_wp2
       go_roundw
       case rel => exact ⟨j + 1, _, by omega, rfl, by go_num, by rw [HS2.out]; exact T2, W2, R2⟩
       case measure => simp [intOf]; omega
      ·have e1' : (q3 != t) = true := by simp [e1]
       have HS2 : Hid (tgU g y (j + 1) = tgU g y j ++ [(q3, q2 - y)]) := by show _ = _; rw [HS.out, if_pos (.inr e1)]
       clear HS e0 e1
       go_wp2
       go_quiet (fail)
       rw [← HW2.out]
       have T2 := hidP (T1.out.later ⟨rfl, rfl, rfl, Nat.le_refl _, fun _ _ => rfl⟩ : OwnP (w2.drewN nq) _ _ _)
       have W2 := hidP (Below.drewNT W1.out nq)
       have R2 := hidP (R1.out.drewN nq)
       have K2 := hidP (K1.out.drewN nq)
       have hs2 : (w2.drewN nq).heap.size = w2.heap.size := rfl
       obtain ⟨w3, hw3⟩ : ∃ w3, w3 = w2.drewN nq := ⟨_, rfl⟩
       rw [← hw3] at T2 W2 R2 K2 hs2 ⊢
       clear hw3 T1 W1 R1 K1
       have k2 := K2.out.cell 2 (v := .int .i64 q2) rfl
       have k3 := K2.out.cell 3 (v := .int .i64 q3) rfl
       obtain ⟨v4, w4, r4, o4, b4, g4⟩ := T2.out.push (q3, q2 - y) (by omega) (by omega)
       have R4 := hidP ((R2.out.alloc (.cells (encP (q3, q2 - y)).toArray 84)).grown g4 (own_ne (T2.out.later ((Below.refl _ _).alloc (Nat.le_refl _) (.cells (encP (q3, q2 - y)).toArray 84))) (R2.out.alloc (.cells (encP (q3, q2 - y)).toArray 84)) (by decide)))
       have W4 := hidP (W2.out.trans (b4.mono (by omega)))
       have T4 := hidP o4
       simp only [encP] at r4
       have HR4 := hidP r4
       obtain ⟨a4, n4, c4, hv4⟩ := slThreeT o4.sl
       subst hv4
       clear r4 o4 b4 g4 T2 R2 K2 hs2
       go_wp2_with (first | (at_builtin; refine wpListAppendRun rfl _ _ 86 rfl rfl rfl HR4.out ?_))
       go_roundw
       case rel => exact ⟨j + 1, _, by omega, rfl, by go_num, by rw [HS2.out]; exact T4, W4, R4⟩
       case measure => simp [intOf]; omega
    ·have hk1 : ¬ (j : Int) < (k : Int) := by omega
     obtain rfl : j = k := by omega
     obtain ⟨at2, nt2, ct2, hvt⟩ := slThreeT hT.out.sl
     subst hvt
     have g0 := hR.out.cell 0 (v := .int .i64 0) rfl
     have g1 := hR.out.cell 1 (v := .int .i64 0) rfl
     have g2 := hR.out.cell 2 (v := .int .i64 0) rfl
     have g3 := hR.out.cell 3 (v := .int .i64 0) rfl
     have f0 := hR.out.fz 0
     have f1 := hR.out.fz 1
     have f2 := hR.out.fz 2
     have f3 := hR.out.fz 3
     have u0 := (hW.out.cell (p := ⟨b, off, none⟩) hbl).trans D0.out
     have u1 := (hW.out.cell (p := ⟨b, off + 1, none⟩) hbl).trans D1.out
     have HS0 : HeldTg b off x0 x1 w1.drew := ⟨u0, u1⟩
     obtain ⟨w5, hw5⟩ : ∃ w5, w5 = ((((w1.setCell ⟨w.heap.size, 0, none⟩ (.int .i64 x0)).setCell ⟨w.heap.size, 1, none⟩ (.int .i64 x1)).setCell ⟨w.heap.size, 2, none⟩ (.int .i64 y)).setCell ⟨w.heap.size, 3, none⟩ (.int .i64 0)).drew := ⟨_, rfl⟩
     have hB5 : Blk w5 w.heap.size #[.int .i64 x0, .int .i64 x1, .int .i64 y, .int .i64 0] 58 := by rw [hw5]; exact ((((hR.out.set 0 _).set 1 _).set 2 _).set 3 _).drew
     have hW5 : Below w.heap.size w w5 := by rw [hw5]; exact ((((hW.out.setCell (p := ⟨w.heap.size, 0, none⟩) (Nat.le_refl _) _).setCell (p := ⟨w.heap.size, 1, none⟩) (Nat.le_refl _) _).setCell (p := ⟨w.heap.size, 2, none⟩) (Nat.le_refl _) _).setCell (p := ⟨w.heap.size, 3, none⟩) (Nat.le_refl _) _).drew
     have hT5 : OwnP w5 (w.heap.size + 1) (.slice at2 nt2 ct2) (tgU g y j) := by
      rw [hw5]
      have s0 := hT.out
      have r0 := hR.out
      have s1 : OwnP _ _ _ _ := World.ownsRow.kept s0 (gSet _ w.heap.size 0 (.int .i64 x0)) (.inr (Ne.symm (own_ne s0 r0 (by decide))))
      have r1 := r0.set 0 (.int .i64 x0)
      have s2 : OwnP _ _ _ _ := World.ownsRow.kept s1 (gSet _ w.heap.size 1 (.int .i64 x1)) (.inr (Ne.symm (own_ne s1 r1 (by decide))))
      have r2 := r1.set 1 (.int .i64 x1)
      have s3 : OwnP _ _ _ _ := World.ownsRow.kept s2 (gSet _ w.heap.size 2 (.int .i64 y)) (.inr (Ne.symm (own_ne s2 r2 (by decide))))
      have r3 := r2.set 2 (.int .i64 y)
      have s4 : OwnP _ _ _ _ := World.ownsRow.kept s3 (gSet _ w.heap.size 3 (.int .i64 0)) (.inr (Ne.symm (own_ne s3 r3 (by decide))))
      exact s4.later ((Below.refl _ _).drew)
     have v0 : HeldTg b off x0 x1 w5 := ⟨(hW5.cell (p := ⟨b, off, none⟩) hbl).trans D0.out, (hW5.cell (p := ⟨b, off + 1, none⟩) hbl).trans D1.out⟩
     have HB5 := hidP hB5
     have HW5 := hidP hW5
     have HT5 := hidP hT5
     have HE5 := hidP hw5
     clear hB5 hW5 hT5 hw5
     go_wp2
     refine region_anyL (HeldTg b off x0 x1) 1000 (by kernel_rfl) ?_
     refine anyL_tk (i := 0) (v := ?v0_1) aZ0 (by kernel_rfl) ?y0_1 HS0 ?r0_1
     case y0_1 => intro wx hx; obtain ⟨u0, u1⟩ := hx; go_simp; try (with_reducible rfl)
     simp only [Act.put, List.setIfInBounds_toArray, List.set_cons_zero, List.set_cons_succ]
     refine anyL_tk (i := 1) (v := ?v1_2) aZ1 (by kernel_rfl) ?y1_2 HS0 ?r1_2
     case y1_2 => intro wx hx; obtain ⟨u0, u1⟩ := hx; go_simp; try (with_reducible rfl)
     simp only [Act.put, List.setIfInBounds_toArray, List.set_cons_zero, List.set_cons_succ]
     refine anyL_tk (i := 2) (v := ?v2_3) aZ2 (by kernel_rfl) ?y2_3 HS0 ?r2_3
     case y2_3 => intro wx hx; obtain ⟨u0, u1⟩ := hx; go_simp; try (with_reducible rfl)
     simp only [Act.put, List.setIfInBounds_toArray, List.set_cons_zero, List.set_cons_succ]
     refine anyL_tk (i := 3) (v := ?v3_4) aZ3 (by kernel_rfl) ?y3_4 HS0 ?r3_4
     case y3_4 => intro wx hx; obtain ⟨u0, u1⟩ := hx; go_simp; try (with_reducible rfl)
     simp only [Act.put, List.setIfInBounds_toArray, List.set_cons_zero, List.set_cons_succ]
     refine anyL_tk (i := 4) (v := ?v4_5) aZ4 (by kernel_rfl) ?y4_5 HS0 ?r4_5
     case y4_5 => intro wx hx; obtain ⟨u0, u1⟩ := hx; go_simp; try (with_reducible rfl)
     simp only [Act.put, List.setIfInBounds_toArray, List.set_cons_zero, List.set_cons_succ]
     refine anyL_tk (i := 5) (v := ?v5_6) aZ5 (by kernel_rfl) ?y5_6 HS0 ?r5_6
     case y5_6 => intro wx hx; obtain ⟨u0, u1⟩ := hx; go_simp; try (with_reducible rfl)
     simp only [Act.put, List.setIfInBounds_toArray, List.set_cons_zero, List.set_cons_succ]
     refine anyL_tk (i := 6) (v := ?v6_7) aZ6 (by kernel_rfl) ?y6_7 HS0 ?r6_7
     case y6_7 => intro wx hx; obtain ⟨u0, u1⟩ := hx; go_simp; try (with_reducible rfl)
     simp only [Act.put, List.setIfInBounds_toArray, List.set_cons_zero, List.set_cons_succ]
     refine anyL_tk (i := 7) (v := ?v7_8) aZ7 (by kernel_rfl) ?y7_8 HS0 ?r7_8
     case y7_8 => intro wx hx; obtain ⟨u0, u1⟩ := hx; go_simp; try (with_reducible rfl)
     simp only [Act.put, List.setIfInBounds_toArray, List.set_cons_zero, List.set_cons_succ]
     refine anyL_tk (i := 8) (v := ?v8_9) aZ8 (by kernel_rfl) ?y8_9 HS0 ?r8_9
     case y8_9 => intro wx hx; obtain ⟨u0, u1⟩ := hx; go_simp; try (with_reducible rfl)
     simp only [Act.put, List.setIfInBounds_toArray, List.set_cons_zero, List.set_cons_succ]
     refine anyL_tk (i := 9) (v := ?v9_10) aZ9 (by kernel_rfl) ?y9_10 HS0 ?r9_10
     case y9_10 => intro wx hx; obtain ⟨u0, u1⟩ := hx; go_simp; try (with_reducible rfl)
     simp only [Act.put, List.setIfInBounds_toArray, List.set_cons_zero, List.set_cons_succ]
     refine anyL_tk (i := 10) (v := ?v10_11) aZ10 (by kernel_rfl) ?y10_11 HS0 ?r10_11
     case y10_11 => intro wx hx; obtain ⟨u0, u1⟩ := hx; go_simp; try (with_reducible rfl)
     simp only [Act.put, List.setIfInBounds_toArray, List.set_cons_zero, List.set_cons_succ]
     refine anyL_one (i := 11) aZ11 (by kernel_rfl) rfl (fun K hK => ?_)
     go_simp
     rw [← HE5.out]
     refine hK _ _ (.inr v0) ?_
     try simp only [Act.put, List.setIfInBounds_toArray, List.set_cons_zero, List.set_cons_succ]
     refine anyL_one (i := 12) aZ12 (by kernel_rfl) rfl (fun K hK => ?_)
     go_simp
     refine hK _ _ (.inr v0) (anyL_done (by kernel_rfl) (NoPanic.normal ?_))
     try simp only [Act.put, List.setIfInBounds_toArray, List.set_cons_zero, List.set_cons_succ]
     go_wp2
     exact bodyPost_ret (res_tog _ _ w.heap.size _ _ _ _ _ HB5.out rfl rfl) rfl ⟨_, rfl, HT5.out.mono (by omega), HW5.out⟩
theorem compare_any (a b : Int) (w : World) : Calls Tryz.prog 109 #[.int .i64 a, .int .i64 b] w fun e w' => e = .returned (.int .i64 (cmpI a b)) ∧ w = w' := by
 unfold cmpI
 by_cases h1 : a < b
 ·go_enter Tryz.func109, Tryz.ntmps109
  go_wp2_with (first | (go_at_call 142; go_in))
  go_ret
  exact ⟨rfl, rfl⟩
 ·by_cases h2 : b < a
  ·go_enter Tryz.func109, Tryz.ntmps109
   go_wp2_with (first | (go_at_call 142; go_in))
   go_ret
   exact ⟨rfl, rfl⟩
  ·go_enter Tryz.func109, Tryz.ntmps109
   go_wp2_with (first | (go_at_call 142; go_in))
   go_ret
   exact ⟨rfl, rfl⟩
theorem or_any (c0 c1 c2 c3 : Int) (b : Nat) (w : World) (h0 : w.cell? ⟨b, 0, none⟩ = some (.int .i64 c0)) (h1 : w.cell? ⟨b, 1, none⟩ = some (.int .i64 c1)) (h2 : w.cell? ⟨b, 2, none⟩ = some (.int .i64 c2)) (h3 : w.cell? ⟨b, 3, none⟩ = some (.int .i64 c3)) :
  Calls Tryz.prog 108 #[.slice (some ⟨b, 0, none⟩) 4 4] w fun e w' => e = .returned (.int .i64 (orI c0 c1 c2 c3)) ∧ w = w' := by
 unfold orI
 by_cases e0 : c0 = 0
 ·by_cases e1 : c1 = 0
  ·by_cases e2 : c2 = 0
   ·by_cases e3 : c3 = 0
    ·subst e0 e1 e2 e3
     go_enter Tryz.func108, Tryz.ntmps108
     go_wp2
     refine wp_loop_rounds 5 ?_; rw [rounds_succ]
     go_wp2
     rw [rounds_succ]
     go_wp2
     rw [rounds_succ]
     go_wp2
     rw [rounds_succ]
     go_wp2
     rw [rounds_succ]
     go_wp2
     go_ret
     exact ⟨rfl, rfl⟩
    ·have hne : (c3 != 0) = true := by simpa using e3
     subst e0 e1 e2
     go_enter Tryz.func108, Tryz.ntmps108
     go_wp2
     refine wp_loop_rounds 5 ?_; rw [rounds_succ]
     go_wp2
     rw [rounds_succ]
     go_wp2
     rw [rounds_succ]
     go_wp2
     rw [rounds_succ]
     go_wp2
     go_ret
     exact ⟨rfl, rfl⟩
   ·have hne : (c2 != 0) = true := by simpa using e2
    subst e0 e1
    go_enter Tryz.func108, Tryz.ntmps108
    go_wp2
    refine wp_loop_rounds 5 ?_; rw [rounds_succ]
    go_wp2
    rw [rounds_succ]
    go_wp2
    rw [rounds_succ]
    go_wp2
    go_ret
    exact ⟨ret_int3 (by simp [e2]), rfl⟩
  ·have hne : (c1 != 0) = true := by simpa using e1
   subst e0
   go_enter Tryz.func108, Tryz.ntmps108
   go_wp2
   refine wp_loop_rounds 5 ?_; rw [rounds_succ]
   go_wp2
   rw [rounds_succ]
   go_wp2
   go_ret
   exact ⟨ret_int3 (by simp [e1]), rfl⟩
 ·have hne : (c0 != 0) = true := by simpa using e0
  go_enter Tryz.func108, Tryz.ntmps108
  go_wp2
  refine wp_loop_rounds 5 ?_; rw [rounds_succ]
  go_wp2
  go_ret
  exact ⟨ret_int3 (by simp [e0]), rfl⟩
def HeldI (B : Nat) (a0 a1 a2 a3 b0 b1 b2 b3 : Int) (w : World) : Prop :=
 Blk w B #[.int .i64 a0, .int .i64 a1, .int .i64 a2, .int .i64 a3] 58 ∧ Blk w (B + 1) #[.int .i64 b0, .int .i64 b1, .int .i64 b2, .int .i64 b3] 58
set_option maxRecDepth 100000 in
set_option maxHeartbeats 1000000 in
theorem inOrder_any (a b : Ar) (w : World) (r : Int) (hr : orI (cmpI a.1 b.1) (cmpI a.2.1 b.2.1) (cmpI a.2.2.2 b.2.2.2) (cmpI a.2.2.1 b.2.2.1) = r) :
  Calls Tryz.prog 61 #[.agg #[.int .i64 a.1, .int .i64 a.2.1, .int .i64 a.2.2.1, .int .i64 a.2.2.2], .agg #[.int .i64 b.1, .int .i64 b.2.1, .int .i64 b.2.2.1, .int .i64 b.2.2.2]] w fun e w' => e = .returned (.int .i64 r) ∧ Below w.heap.size w w' := by
 obtain ⟨a0, a1, a2, a3⟩ := a
 obtain ⟨b0, b1, b2, b3⟩ := b
 simp only at hr ⊢
 have HR : Hid (orI (cmpI a0 b0) (cmpI a1 b1) (cmpI a3 b3) (cmpI a2 b2) = r) := hr
 clear hr
 go_enter Tryz.func61, Tryz.ntmps61
 go_wp2
 refine region_anyL (HeldI w.heap.size a0 a1 a2 a3 b0 b1 b2 b3) 1000 (by kernel_rfl) ?_
 have hk := Blk.made (w.alloc (.cells #[.int .i64 a0, .int .i64 a1, .int .i64 a2, .int .i64 a3] 58)) #[.int .i64 b0, .int .i64 b1, .int .i64 b2, .int .i64 b3] 58
 simp only [World.size_alloc] at hk
 have HS : HeldI w.heap.size a0 a1 a2 a3 b0 b1 b2 b3 ((w.alloc (.cells #[.int .i64 a0, .int .i64 a1, .int .i64 a2, .int .i64 a3] 58)).alloc (.cells #[.int .i64 b0, .int .i64 b1, .int .i64 b2, .int .i64 b3] 58)).drew := ⟨((Blk.made w _ _).alloc _).drew, hk.drew⟩
 have HU : Below w.heap.size w ((w.alloc (.cells #[.int .i64 a0, .int .i64 a1, .int .i64 a2, .int .i64 a3] 58)).alloc (.cells #[.int .i64 b0, .int .i64 b1, .int .i64 b2, .int .i64 b3] 58)).drew := Below.drew (by go_grown)
 clear hk
 generalize hw0 : ((w.alloc (.cells #[.int .i64 a0, .int .i64 a1, .int .i64 a2, .int .i64 a3] 58)).alloc (.cells #[.int .i64 b0, .int .i64 b1, .int .i64 b2, .int .i64 b3] 58)).drew = w0 at *
 clear hw0
 refine anyL_tk (i := 0) (v := ?v0_1) aZ0 (by kernel_rfl) ?y0_1 HS ?r0_1
 case y0_1 => intro wx hx; have p0 := hx.1.cell 0 rfl; have p1 := hx.1.cell 1 rfl; have p2 := hx.1.cell 2 rfl; have p3 := hx.1.cell 3 rfl; have q0 := hx.2.cell 0 rfl; have q1 := hx.2.cell 1 rfl; have q2 := hx.2.cell 2 rfl; have q3 := hx.2.cell 3 rfl; go_simp; try (with_reducible rfl)
 simp only [Act.put, List.setIfInBounds_toArray, List.set_cons_zero, List.set_cons_succ]
 refine anyL_tk (i := 1) (v := ?v1_2) aZ1 (by kernel_rfl) ?y1_2 HS ?r1_2
 case y1_2 => intro wx hx; have p0 := hx.1.cell 0 rfl; have p1 := hx.1.cell 1 rfl; have p2 := hx.1.cell 2 rfl; have p3 := hx.1.cell 3 rfl; have q0 := hx.2.cell 0 rfl; have q1 := hx.2.cell 1 rfl; have q2 := hx.2.cell 2 rfl; have q3 := hx.2.cell 3 rfl; go_simp; try (with_reducible rfl)
 simp only [Act.put, List.setIfInBounds_toArray, List.set_cons_zero, List.set_cons_succ]
 refine anyL_tk (i := 2) (v := ?v2_3) aZ2 (by kernel_rfl) ?y2_3 HS ?r2_3
 case y2_3 => intro wx hx; have p0 := hx.1.cell 0 rfl; have p1 := hx.1.cell 1 rfl; have p2 := hx.1.cell 2 rfl; have p3 := hx.1.cell 3 rfl; have q0 := hx.2.cell 0 rfl; have q1 := hx.2.cell 1 rfl; have q2 := hx.2.cell 2 rfl; have q3 := hx.2.cell 3 rfl; go_simp; try (with_reducible rfl)
 simp only [Act.put, List.setIfInBounds_toArray, List.set_cons_zero, List.set_cons_succ]
 refine anyL_tk (i := 3) (v := ?v3_4) aZ3 (by kernel_rfl) ?y3_4 HS ?r3_4
 case y3_4 => intro wx hx; have p0 := hx.1.cell 0 rfl; have p1 := hx.1.cell 1 rfl; have p2 := hx.1.cell 2 rfl; have p3 := hx.1.cell 3 rfl; have q0 := hx.2.cell 0 rfl; have q1 := hx.2.cell 1 rfl; have q2 := hx.2.cell 2 rfl; have q3 := hx.2.cell 3 rfl; go_simp; try (with_reducible rfl)
 simp only [Act.put, List.setIfInBounds_toArray, List.set_cons_zero, List.set_cons_succ]
 refine anyL_tk (i := 5) (v := ?v5_5) aZ5 (by kernel_rfl) ?y5_5 HS ?r5_5
 case y5_5 => intro wx hx; have p0 := hx.1.cell 0 rfl; have p1 := hx.1.cell 1 rfl; have p2 := hx.1.cell 2 rfl; have p3 := hx.1.cell 3 rfl; have q0 := hx.2.cell 0 rfl; have q1 := hx.2.cell 1 rfl; have q2 := hx.2.cell 2 rfl; have q3 := hx.2.cell 3 rfl; go_simp; try (with_reducible rfl)
 simp only [Act.put, List.setIfInBounds_toArray, List.set_cons_zero, List.set_cons_succ]
 refine anyL_tk (i := 6) (v := ?v6_6) aZ6 (by kernel_rfl) ?y6_6 HS ?r6_6
 case y6_6 => intro wx hx; have p0 := hx.1.cell 0 rfl; have p1 := hx.1.cell 1 rfl; have p2 := hx.1.cell 2 rfl; have p3 := hx.1.cell 3 rfl; have q0 := hx.2.cell 0 rfl; have q1 := hx.2.cell 1 rfl; have q2 := hx.2.cell 2 rfl; have q3 := hx.2.cell 3 rfl; go_simp; try (with_reducible rfl)
 simp only [Act.put, List.setIfInBounds_toArray, List.set_cons_zero, List.set_cons_succ]
 refine anyL_tk (i := 7) (v := ?v7_7) aZ7 (by kernel_rfl) ?y7_7 HS ?r7_7
 case y7_7 => intro wx hx; have p0 := hx.1.cell 0 rfl; have p1 := hx.1.cell 1 rfl; have p2 := hx.1.cell 2 rfl; have p3 := hx.1.cell 3 rfl; have q0 := hx.2.cell 0 rfl; have q1 := hx.2.cell 1 rfl; have q2 := hx.2.cell 2 rfl; have q3 := hx.2.cell 3 rfl; go_simp; try (with_reducible rfl)
 simp only [Act.put, List.setIfInBounds_toArray, List.set_cons_zero, List.set_cons_succ]
 refine anyL_tk (i := 8) (v := ?v8_8) aZ8 (by kernel_rfl) ?y8_8 HS ?r8_8
 case y8_8 => intro wx hx; have p0 := hx.1.cell 0 rfl; have p1 := hx.1.cell 1 rfl; have p2 := hx.1.cell 2 rfl; have p3 := hx.1.cell 3 rfl; have q0 := hx.2.cell 0 rfl; have q1 := hx.2.cell 1 rfl; have q2 := hx.2.cell 2 rfl; have q3 := hx.2.cell 3 rfl; go_simp; try (with_reducible rfl)
 simp only [Act.put, List.setIfInBounds_toArray, List.set_cons_zero, List.set_cons_succ]
 refine anyL_tk (i := 10) (v := ?v10_9) aZ10 (by kernel_rfl) ?y10_9 HS ?r10_9
 case y10_9 => intro wx hx; have p0 := hx.1.cell 0 rfl; have p1 := hx.1.cell 1 rfl; have p2 := hx.1.cell 2 rfl; have p3 := hx.1.cell 3 rfl; have q0 := hx.2.cell 0 rfl; have q1 := hx.2.cell 1 rfl; have q2 := hx.2.cell 2 rfl; have q3 := hx.2.cell 3 rfl; go_simp; try (with_reducible rfl)
 simp only [Act.put, List.setIfInBounds_toArray, List.set_cons_zero, List.set_cons_succ]
 refine anyL_tk (i := 11) (v := ?v11_10) aZ11 (by kernel_rfl) ?y11_10 HS ?r11_10
 case y11_10 => intro wx hx; have p0 := hx.1.cell 0 rfl; have p1 := hx.1.cell 1 rfl; have p2 := hx.1.cell 2 rfl; have p3 := hx.1.cell 3 rfl; have q0 := hx.2.cell 0 rfl; have q1 := hx.2.cell 1 rfl; have q2 := hx.2.cell 2 rfl; have q3 := hx.2.cell 3 rfl; go_simp; try (with_reducible rfl)
 simp only [Act.put, List.setIfInBounds_toArray, List.set_cons_zero, List.set_cons_succ]
 refine anyL_tk (i := 12) (v := ?v12_11) aZ12 (by kernel_rfl) ?y12_11 HS ?r12_11
 case y12_11 => intro wx hx; have p0 := hx.1.cell 0 rfl; have p1 := hx.1.cell 1 rfl; have p2 := hx.1.cell 2 rfl; have p3 := hx.1.cell 3 rfl; have q0 := hx.2.cell 0 rfl; have q1 := hx.2.cell 1 rfl; have q2 := hx.2.cell 2 rfl; have q3 := hx.2.cell 3 rfl; go_simp; try (with_reducible rfl)
 simp only [Act.put, List.setIfInBounds_toArray, List.set_cons_zero, List.set_cons_succ]
 refine anyL_tk (i := 13) (v := ?v13_12) aZ13 (by kernel_rfl) ?y13_12 HS ?r13_12
 case y13_12 => intro wx hx; have p0 := hx.1.cell 0 rfl; have p1 := hx.1.cell 1 rfl; have p2 := hx.1.cell 2 rfl; have p3 := hx.1.cell 3 rfl; have q0 := hx.2.cell 0 rfl; have q1 := hx.2.cell 1 rfl; have q2 := hx.2.cell 2 rfl; have q3 := hx.2.cell 3 rfl; go_simp; try (with_reducible rfl)
 simp only [Act.put, List.setIfInBounds_toArray, List.set_cons_zero, List.set_cons_succ]
 refine anyL_tk (i := 15) (v := ?v15_13) aZ15 (by kernel_rfl) ?y15_13 HS ?r15_13
 case y15_13 => intro wx hx; have p0 := hx.1.cell 0 rfl; have p1 := hx.1.cell 1 rfl; have p2 := hx.1.cell 2 rfl; have p3 := hx.1.cell 3 rfl; have q0 := hx.2.cell 0 rfl; have q1 := hx.2.cell 1 rfl; have q2 := hx.2.cell 2 rfl; have q3 := hx.2.cell 3 rfl; go_simp; try (with_reducible rfl)
 simp only [Act.put, List.setIfInBounds_toArray, List.set_cons_zero, List.set_cons_succ]
 refine anyL_tk (i := 16) (v := ?v16_14) aZ16 (by kernel_rfl) ?y16_14 HS ?r16_14
 case y16_14 => intro wx hx; have p0 := hx.1.cell 0 rfl; have p1 := hx.1.cell 1 rfl; have p2 := hx.1.cell 2 rfl; have p3 := hx.1.cell 3 rfl; have q0 := hx.2.cell 0 rfl; have q1 := hx.2.cell 1 rfl; have q2 := hx.2.cell 2 rfl; have q3 := hx.2.cell 3 rfl; go_simp; try (with_reducible rfl)
 simp only [Act.put, List.setIfInBounds_toArray, List.set_cons_zero, List.set_cons_succ]
 refine anyL_tk (i := 17) (v := ?v17_15) aZ17 (by kernel_rfl) ?y17_15 HS ?r17_15
 case y17_15 => intro wx hx; have p0 := hx.1.cell 0 rfl; have p1 := hx.1.cell 1 rfl; have p2 := hx.1.cell 2 rfl; have p3 := hx.1.cell 3 rfl; have q0 := hx.2.cell 0 rfl; have q1 := hx.2.cell 1 rfl; have q2 := hx.2.cell 2 rfl; have q3 := hx.2.cell 3 rfl; go_simp; try (with_reducible rfl)
 simp only [Act.put, List.setIfInBounds_toArray, List.set_cons_zero, List.set_cons_succ]
 refine anyL_tk (i := 18) (v := ?v18_16) aZ18 (by kernel_rfl) ?y18_16 HS ?r18_16
 case y18_16 => intro wx hx; have p0 := hx.1.cell 0 rfl; have p1 := hx.1.cell 1 rfl; have p2 := hx.1.cell 2 rfl; have p3 := hx.1.cell 3 rfl; have q0 := hx.2.cell 0 rfl; have q1 := hx.2.cell 1 rfl; have q2 := hx.2.cell 2 rfl; have q3 := hx.2.cell 3 rfl; go_simp; try (with_reducible rfl)
 simp only [Act.put, List.setIfInBounds_toArray, List.set_cons_zero, List.set_cons_succ]
 refine anyL_one (i := 4) aZ4 (by kernel_rfl) rfl (fun K hK => ?_)
 go_simp
 refine (compare_any _ _ _).mono ?_
 rintro e w1 ⟨rfl, rfl⟩
 refine hK _ _ (.inr HS) ?_
 try simp only [Act.put, List.setIfInBounds_toArray, List.set_cons_zero, List.set_cons_succ]
 refine anyL_one (i := 9) aZ9 (by kernel_rfl) rfl (fun K hK => ?_)
 go_simp
 refine (compare_any _ _ _).mono ?_
 rintro e w1 ⟨rfl, rfl⟩
 refine hK _ _ (.inr HS) ?_
 try simp only [Act.put, List.setIfInBounds_toArray, List.set_cons_zero, List.set_cons_succ]
 refine anyL_one (i := 14) aZ14 (by kernel_rfl) rfl (fun K hK => ?_)
 go_simp
 refine (compare_any _ _ _).mono ?_
 rintro e w1 ⟨rfl, rfl⟩
 refine hK _ _ (.inr HS) ?_
 try simp only [Act.put, List.setIfInBounds_toArray, List.set_cons_zero, List.set_cons_succ]
 refine anyL_one (i := 19) aZ19 (by kernel_rfl) rfl (fun K hK => ?_)
 go_simp
 refine (compare_any _ _ _).mono ?_
 rintro e w1 ⟨rfl, rfl⟩
 refine hK _ _ (.inr HS) ?_
 try simp only [Act.put, List.setIfInBounds_toArray, List.set_cons_zero, List.set_cons_succ]
 refine anyL_one (i := 20) aZ20 (by kernel_rfl) rfl (fun K hK => ?_)
 go_simp
 refine hK _ _ (.inr ⟨HS.1.alloc _, HS.2.alloc _⟩) ?_
 try simp only [Act.put, List.setIfInBounds_toArray, List.set_cons_zero, List.set_cons_succ]
 refine anyL_one (i := 21) aZ21 (by kernel_rfl) rfl (fun K hK => ?_)
 go_simp
 refine (or_any (cmpI a0 b0) (cmpI a1 b1) (cmpI a3 b3) (cmpI a2 b2) _ _ (by go_cell) (by go_cell) (by go_cell) (by go_cell)).mono ?_
 rintro e w1 ⟨rfl, rfl⟩
 refine hK _ _ (.inr ⟨HS.1.alloc _, HS.2.alloc _⟩) ?_
 try simp only [Act.put, List.setIfInBounds_toArray, List.set_cons_zero, List.set_cons_succ]
 refine anyL_one (i := 22) aZ22 (by kernel_rfl) rfl (fun K hK => ?_)
 go_simp
 refine hK _ _ (.inr ⟨HS.1.alloc _, HS.2.alloc _⟩) (anyL_done (by kernel_rfl) (NoPanic.normal ?_))
 try simp only [Act.put, List.setIfInBounds_toArray, List.set_cons_zero, List.set_cons_succ]
 go_wp2
 go_ret
 exact ⟨ret_int3 HR.out, HU.alloc HU.size _⟩
end Go.Proofs.YtfhjncpakgailaaGreatDoor.Wt
