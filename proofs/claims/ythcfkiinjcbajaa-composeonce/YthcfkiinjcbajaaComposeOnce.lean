/- The statement ComposeOnce: whatever numbers two machines with one path each are made of, composed and trimmed they have one path if what the one writes is what the other reads, else none, or composed they are too large, for every input and without any condition. -/
import Derived.Test.YthcfkiinjcbajaaKj
import Derived.Test.YthcfkiinjcbajaaJ16q
import Derived.Test.YthcfkiinjcbajaaCx
import Derived.Test.YthcfkiinjcbajaaKx
import Derived.Test.YthcfkiinjcbajaaKm
import Derived.Test.YthcfkiinjcbajaaJ16s
import Derived.Test.YthcfkiinjcbajaaJ16w
import Derived.Test.YthcfkiinjcbajaaJ16c
import Derived.Test.YthcfkiinjcbajaaJ16g
import Derived.Test.YthcfkiinjcbajaaLo
import Derived.Lib.SmallJoins
import Derived.ChangeOld
import Derived.Below
namespace Go.Proofs.Ythcfkiinjcbajaa.composeOnce
open Go.ChangeShapes Go.WideShapes Go.ChangeAt Go.RowKit
open Go.Proofs.Ythcfkiinjcbajaa.Pl Go.Proofs.Ythcfkiinjcbajaa.Wt
set_option linter.unusedVariables false
set_option linter.unusedSimpArgs false

theorem own : ownKnob Try.prog.godebug = none := by kernel_rfl
theorem laidOut : laidOutB Try.prog = true := by kernel_rfl
set_option maxRecDepth 100000 in
set_option maxHeartbeats 6400000 in
theorem core (vx : Value) (lx : List Ar) (vy : Value) (ly : List Ar) (w : World) (hx : Arcs w vx lx ∧ (∀ a ∈ lx, wfA a) ∧ lx.length * 32 ≤ 140737488351232) (hy : Arcs w vy ly ∧ (∀ a ∈ ly, wfA a) ∧ ly.length * 32 ≤ 140737488351232) :
    Calls Try.prog 7 #[vx, vy] w fun e w' => e = .returned (.bool true) ∧ Below w.heap.size w w' := by
  have HIx := hidP hx.1
  have HIy := hidP hy.1
  have HEx : Hid (∀ v W, Arcs W v lx → Calls Try.prog 21 #[v, .int .i64 6] W fun e w' => ∃ v', e = .returned v' ∧ Mach w' v' (chnM lx (min lx.length 6)) ∧ Below W.heap.size W w') := fun v W h1 => chain_any v lx W h1 hx.2.1 hx.2.2
  have HEy : Hid (∀ v W, Arcs W v ly → Calls Try.prog 21 #[v, .int .i64 6] W fun e w' => ∃ v', e = .returned v' ∧ Mach w' v' (chnM ly (min ly.length 6)) ∧ Below W.heap.size W w') := fun v W h1 => chain_any v ly W h1 hy.2.1 hy.2.2
  obtain ⟨a0x, c0x, hv0x, _⟩ := hx.1.get
  obtain ⟨a0y, c0y, hv0y, _⟩ := hy.1.get
  subst hv0x hv0y
  clear hx hy
  obtain ⟨kx, hkx⟩ : ∃ k, min lx.length 6 = k := ⟨_, rfl⟩
  obtain ⟨ky, hky⟩ : ∃ k, min ly.length 6 = k := ⟨_, rfl⟩
  rw [hkx] at HEx
  rw [hky] at HEy
  have kx6 : kx ≤ 6 := by omega
  have ky6 : ky ≤ 6 := by omega
  clear hkx hky
  have fx := chn_right lx kx6
  have fy := chn_right ly ky6
  have HLx : Hid ((chnM lx kx).2.length = kx + 1) := chn_len lx kx
  have HLy : Hid ((chnM ly ky).2.length = ky + 1) := chn_len ly ky
  have HAx : Hid (∀ i, i < kx → el (chnM lx kx).2 i = (1000000001, [chA lx i])) := fun i hi => chn_at lx hi
  have HAy : Hid (∀ i, i < ky → el (chnM ly ky).2 i = (1000000001, [chA ly i])) := fun i hi => chn_at ly hi
  rcases cmp_two (by omega) (by omega) (by omega) (chn_low lx kx) (chn_low ly ky) fx fy (Int.le_refl 0) (Int.le_refl 0) with ec | ⟨C, ec, fc, pc, z9C, l9C, cc⟩
  · obtain ⟨Z, hZ, t9c, kZ⟩ : ∃ Z : Mc, (0, []) = Z ∧ ((Z.2.length : Int) == 0) = true ∧ okM Z := ⟨_, rfl, rfl, by simp, fun j hj => absurd hj (by simp)⟩
    rw [hZ] at ec
    clear hZ
    have HUc : Hid (∀ W v u, Mach W v (chnM lx kx) → Mach W u (chnM ly ky) → Calls Try.prog 14 #[v, u] W fun e w' => RatRes Z 5 W e w') := fun W v u h1 h2 => by
      have := composeP_any v u _ _ W h1 (right_ok fx) h2 (right_ok fy)
      rw [ec] at this
      exact this
    clear fx fy ec
    generalize chnM lx kx = Mx at *
    generalize chnM ly ky = My at *
    have HB0 : Hid (Below w.heap.size w w) := Below.refl _ _
    obtain ⟨i0, hi0, hz0, hz1, hz2⟩ := info_parts infoIntU
    try clear kZ
    try clear z9C l9C
    try clear z9K l9K
    try clear z9P l9P
    try clear z9R l9R
    try clear z9D l9D
    go_enter Try.func7, Try.ntmps7
    go_wp2_with (first
      | (go_at_call 21; (with_reducible refine (HEx.out _ _ (HIx.out.later (HB0.out) (Nat.le_refl _))).mono ?_); rintro e w1 ⟨v1, rfl, hm, hb⟩; have HMx : Hid (Mach w1 v1 (Mx)) := hm; obtain ⟨vsx, rfl, hSx⟩ := hm; obtain ⟨ax, cx, rfl⟩ := hSx.sl; clear hSx; have hb1 := hb; have HB1 := hidP hb1; clear hb hb1)
      | (go_at_call 21; (with_reducible refine (HEy.out _ _ (HIy.out.later (HB1.out.alloc HB1.out.size _) (Nat.le_refl _))).mono ?_); rintro e w2 ⟨v2, rfl, hm, hb⟩; have HMy : Hid (Mach w2 v2 (My)) := hm; obtain ⟨vsy, rfl, hSy⟩ := hm; obtain ⟨ay, cy, rfl⟩ := hSy.sl; clear hSy; obtain ⟨s2, bb0, hb2⟩ := boxed hb (by simp); have KVx2 := hidP bb0; clear bb0; have HB2 := hidP (HB1.out.trans (hb2.mono HB1.out.size)); have Hx2 := hidP hb2; have qVx0 := (KVx2.out.alloc (.cells #[.int .i64 My.1, .slice ay My.2.length cy] 24)).cell 0 (v := .int .i64 Mx.1) rfl; have qVx1 := (KVx2.out.alloc (.cells #[.int .i64 My.1, .slice ay My.2.length cy] 24)).cell 1 (v := .slice ax Mx.2.length cx) rfl; clear hb hb2))
    have KVxN := hidP (KVx2.out.alloc (.cells #[.int .i64 My.1, .slice ay My.2.length cy] 24))
    have KVyN := hidP (Blk.made w2 #[.int .i64 My.1, .slice ay My.2.length cy] 24)
    have HBA := hidP (HB2.out.alloc HB2.out.size (.cells #[.int .i64 My.1, .slice ay My.2.length cy] 24))
    have HXx := hidP (Hx2.out.alloc Hx2.out.size (.cells #[.int .i64 My.1, .slice ay My.2.length cy] 24))
    have HXy := hidP ((Below.refl w2.heap.size w2).alloc (Nat.le_refl _) (.cells #[.int .i64 My.1, .slice ay My.2.length cy] 24))
    generalize w2.alloc (.cells #[.int .i64 My.1, .slice ay My.2.length cy] 24) = WA at *
    go_loopw [7, 8] (fun s7 s8 wr => ∃ (q n : Nat) (vr : Value) (ls : List Int), s7 = vr ∧ s8 = .int .i64 (q : Int) ∧ q ≤ kx ∧ Hid (ls = nzL (outQ q (chA lx))) ∧ Hid (ls.length = n) ∧ n ≤ q ∧ Hid (wr.ownsRow WA.heap.size 3 1 vr n (ls.flatMap encI1)) ∧ Hid (Below WA.heap.size WA wr)) (fun _ s8 _ => kx - (intOf s8).toNat)
    case atStart => exact ⟨0, 0, _, [], rfl, rfl, Nat.zero_le _, rfl, rfl, Nat.le_refl _, World.ownsRow_nil _ _ _ _, Below.refl _ _⟩
    case round =>
      obtain ⟨q, n, vr, ls, rfl, rfl, hq, hls, hn, hnq, ho, hb⟩ := hrel
      obtain ⟨w6, hw6⟩ : ∃ w6, w6 = wr := ⟨_, rfl⟩
      subst hw6
      obtain ⟨avr, cvr, hvr⟩ := own_sl ho.out
      subst hvr
      have c1 := (KVxN.out.below hb.out KVxN.out.lt).cell 1 (v := .slice ax Mx.2.length cx) rfl
      have hsz := hb.out.size
      have q0 : (0 : Int) ≤ (q : Int) := by omega
      have hsub : IntKind.i64.wrap ((Mx.2.length : Int) - 1) = (kx : Int) := by rw [HLx.out, wrapI (by omega) (by omega)]; omega
      by_cases hlt : q < kx
      · have q1 : (q : Int) < (kx : Int) := by omega
        have q2 : (q : Int) < (Mx.2.length : Int) := by have := HLx.out; omega
        obtain ⟨vsC, hvC, hSC⟩ := HMx.out
        simp only [Value.agg.injEq, Array.mk.injEq, List.cons.injEq, and_true, true_and] at hvC
        subst hvC
        obtain ⟨a9, c9, hv9, hcc⟩ := hSC.get
        simp only [Value.slice.injEq, true_and] at hv9
        obtain ⟨rfl, rfl⟩ := hv9
        obtain ⟨bs, os, va, hsome, hbs, g0, g1, gA⟩ := hcc q (by have := HLx.out; omega)
        subst hsome
        rw [HAx.out q hlt] at gA
        obtain ⟨aA, cA, hvA, hcA⟩ := gA.get
        subst hvA
        obtain ⟨bA, oA, hsA, hbA, r0, r1, _, _⟩ := hcA 0 (by simp)
        subst hsA
        have hMW : Below _ _ w6 := HXx.out.trans (hb.out.mono HXx.out.size)
        have g1 := (hMW.cell (p := ⟨bs, os + q * 2 + 1, none⟩) hbs).trans g1
        have r0 := (hMW.cell (p := ⟨bA, oA + 0 * 4, none⟩) hbA).trans r0
        have r1 := (hMW.cell (p := ⟨bA, oA + 0 * 4 + 1, none⟩) hbA).trans r1
        have hbd := chA_bd lx q
        have HNZ := hidP (nz_out (chA lx) q)
        rw [el_zero] at r0 r1
        simp only [Nat.zero_mul, Nat.add_zero, List.length_cons, List.length_nil, Nat.zero_add] at r0 r1 g1
        clear hcc hSC hcA gA g0 hMW
        obtain ⟨ca, hca⟩ : ∃ ca, chA lx q = ca := ⟨_, rfl⟩
        rw [hca] at r0 r1 hbd HNZ
        clear hca
        obtain ⟨y0, y1, y2, y3⟩ := ca
        simp only at r0 r1 hbd HNZ
        by_cases hz : y1 = 0
        · have hgt : ¬ y1 > 0 := by omega
          have HLS : Hid (ls = nzL (outQ (q + 1) (chA lx))) := by show _ = _; rw [HNZ.out, if_pos hz, List.append_nil]; exact hls.out
          clear hz
          go_wp2
          go_roundw
          case rel => exact ⟨q + 1, n, _, ls, rfl, by go_num, by omega, HLS, hn, by omega, ho, hb⟩
          case measure => simp [intOf]; omega
        · have hgt : y1 > 0 := by omega
          have HLS : Hid (ls ++ [y1] = nzL (outQ (q + 1) (chA lx))) := by show _ = _; rw [HNZ.out, if_neg hz, hls.out]
          have HD := ho
          clear ho hz
          go_wp2_with (first
            | (at_builtin; refine wpList_append_rows encI1_len (by decide) encI1_one rfl _ _ 40 rfl WA.heap.size 3 i0 _ 8 Try.underlying40 hi0 hz0 hz1 hz2 rfl _ n (ls.flatMap encI1) rfl (HD.out.alloc _) _ [y1] rfl (oneRow (enc := encI1) w6 (y1) rfl 3) (by simp; unfold maxLen; omega) (by simp; omega) (by simp; omega) ?_; intro v4 w4 ho4 hg4; have HO4 := hidP ho4; have HB4 : Hid (Below WA.heap.size WA w4) := (hb.out.alloc hsz _).grown hg4 (by simp; omega) (fun k hk => (HD.out.lt k hk).1); clear ho4 hg4))
          go_roundw
          case rel => exact ⟨q + 1, n + 1, _, ls ++ [y1], rfl, by go_num, by omega, HLS, (by show _ = _; rw [List.length_append, hn.out]; rfl), by omega, by rw [List.flatMap_append]; exact HO4, HB4⟩
          case measure => simp [intOf]; omega
      · have q1 : ¬ (q : Int) < (kx : Int) := by omega
        obtain rfl : kx = q := by omega
        have HNV : Hid (Nums w6 (.slice avr n cvr) (nzL (outQ kx (chA lx)))) := by rw [← hls.out]; exact Row.ofOwn encI1_len ho.out hn.out
        obtain ⟨VV, hVV⟩ : ∃ VV, Value.slice avr n cvr = VV := ⟨_, rfl⟩
        have HBB := hidP (HBA.out.trans (hb.out.mono HBA.out.size))
        have HXx := hidP (HXx.out.trans (hb.out.mono HXx.out.size))
        have HXy := hidP (HXy.out.trans (hb.out.mono HXy.out.size))
        have KVxN := hidP (KVxN.out.below hb.out KVxN.out.lt)
        have KVyN := hidP (KVyN.out.below hb.out KVyN.out.lt)
        go_wp2
        rw [hVV] at HNV
        clear hVV
        obtain ⟨WB, hWB⟩ : ∃ WB, WB = w6 := ⟨_, rfl⟩
        subst hWB
        clear c1 ho hb hls hsz hsub hn
        go_loopw [10, 11] (fun s7 s8 wr => ∃ (q n : Nat) (vr : Value) (ls : List Int), s7 = vr ∧ s8 = .int .i64 (q : Int) ∧ q ≤ ky ∧ Hid (ls = nzL (insQ q (chA ly))) ∧ Hid (ls.length = n) ∧ n ≤ q ∧ Hid (wr.ownsRow WB.heap.size 3 1 vr n (ls.flatMap encI1)) ∧ Hid (Below WB.heap.size WB wr)) (fun _ s8 _ => ky - (intOf s8).toNat)
        case atStart => exact ⟨0, 0, _, [], rfl, rfl, Nat.zero_le _, rfl, rfl, Nat.le_refl _, World.ownsRow_nil _ _ _ _, Below.refl _ _⟩
        case round =>
          obtain ⟨q, n, vr, ls, rfl, rfl, hq, hls, hn, hnq, ho, hb⟩ := hrel
          obtain ⟨w6, hw6⟩ : ∃ w6, w6 = wr := ⟨_, rfl⟩
          subst hw6
          obtain ⟨avr, cvr, hvr⟩ := own_sl ho.out
          subst hvr
          have c1 := (KVyN.out.below hb.out KVyN.out.lt).cell 1 (v := .slice ay My.2.length cy) rfl
          have hsz := hb.out.size
          have q0 : (0 : Int) ≤ (q : Int) := by omega
          have hsub : IntKind.i64.wrap ((My.2.length : Int) - 1) = (ky : Int) := by rw [HLy.out, wrapI (by omega) (by omega)]; omega
          by_cases hlt : q < ky
          · have q1 : (q : Int) < (ky : Int) := by omega
            have q2 : (q : Int) < (My.2.length : Int) := by have := HLy.out; omega
            obtain ⟨vsC, hvC, hSC⟩ := HMy.out
            simp only [Value.agg.injEq, Array.mk.injEq, List.cons.injEq, and_true, true_and] at hvC
            subst hvC
            obtain ⟨a9, c9, hv9, hcc⟩ := hSC.get
            simp only [Value.slice.injEq, true_and] at hv9
            obtain ⟨rfl, rfl⟩ := hv9
            obtain ⟨bs, os, va, hsome, hbs, g0, g1, gA⟩ := hcc q (by have := HLy.out; omega)
            subst hsome
            rw [HAy.out q hlt] at gA
            obtain ⟨aA, cA, hvA, hcA⟩ := gA.get
            subst hvA
            obtain ⟨bA, oA, hsA, hbA, r0, r1, _, _⟩ := hcA 0 (by simp)
            subst hsA
            have hMW : Below _ _ w6 := HXy.out.trans (hb.out.mono HXy.out.size)
            have g1 := (hMW.cell (p := ⟨bs, os + q * 2 + 1, none⟩) hbs).trans g1
            have r0 := (hMW.cell (p := ⟨bA, oA + 0 * 4, none⟩) hbA).trans r0
            have r1 := (hMW.cell (p := ⟨bA, oA + 0 * 4 + 1, none⟩) hbA).trans r1
            have hbd := chA_bd ly q
            have HNZ := hidP (nz_in (chA ly) q)
            rw [el_zero] at r0 r1
            simp only [Nat.zero_mul, Nat.add_zero, List.length_cons, List.length_nil, Nat.zero_add] at r0 r1 g1
            clear hcc hSC hcA gA g0 hMW
            obtain ⟨ca, hca⟩ : ∃ ca, chA ly q = ca := ⟨_, rfl⟩
            rw [hca] at r0 r1 hbd HNZ
            clear hca
            obtain ⟨y0, y1, y2, y3⟩ := ca
            simp only at r0 r1 hbd HNZ
            by_cases hz : y0 = 0
            · have hgt : ¬ y0 > 0 := by omega
              have HLS : Hid (ls = nzL (insQ (q + 1) (chA ly))) := by show _ = _; rw [HNZ.out, if_pos hz, List.append_nil]; exact hls.out
              clear hz
              go_wp2
              go_roundw
              case rel => exact ⟨q + 1, n, _, ls, rfl, by go_num, by omega, HLS, hn, by omega, ho, hb⟩
              case measure => simp [intOf]; omega
            · have hgt : y0 > 0 := by omega
              have HLS : Hid (ls ++ [y0] = nzL (insQ (q + 1) (chA ly))) := by show _ = _; rw [HNZ.out, if_neg hz, hls.out]
              have HD := ho
              clear ho hz
              go_wp2_with (first
                | (at_builtin; refine wpList_append_rows encI1_len (by decide) encI1_one rfl _ _ 40 rfl WB.heap.size 3 i0 _ 8 Try.underlying40 hi0 hz0 hz1 hz2 rfl _ n (ls.flatMap encI1) rfl (HD.out.alloc _) _ [y0] rfl (oneRow (enc := encI1) w6 (y0) rfl 3) (by simp; unfold maxLen; omega) (by simp; omega) (by simp; omega) ?_; intro v4 w4 ho4 hg4; have HO4 := hidP ho4; have HB4 : Hid (Below WB.heap.size WB w4) := (hb.out.alloc hsz _).grown hg4 (by simp; omega) (fun k hk => (HD.out.lt k hk).1); clear ho4 hg4))
              go_roundw
              case rel => exact ⟨q + 1, n + 1, _, ls ++ [y0], rfl, by go_num, by omega, HLS, (by show _ = _; rw [List.length_append, hn.out]; rfl), by omega, by rw [List.flatMap_append]; exact HO4, HB4⟩
              case measure => simp [intOf]; omega
          · have q1 : ¬ (q : Int) < (ky : Int) := by omega
            obtain rfl : ky = q := by omega
            have HNw : Hid (Nums w6 (.slice avr n cvr) (nzL (insQ ky (chA ly)))) := by rw [← hls.out]; exact Row.ofOwn encI1_len ho.out hn.out
            have HNv : Hid (Nums w6 VV (nzL (outQ kx (chA lx)))) := HNV.out.later hb.out (Nat.le_refl _)
            have HB3 := hidP (HBB.out.trans (hb.out.mono HBB.out.size))
            have Hx3 := hidP (HXx.out.trans (hb.out.mono HXx.out.size))
            have Hy3 := hidP (HXy.out.trans (hb.out.mono HXy.out.size))
            have KVx3 := hidP (KVxN.out.below hb.out KVxN.out.lt)
            have KVy3 := hidP (KVyN.out.below hb.out KVyN.out.lt)
            have qVx0 := KVx3.out.cell 0 (v := .int .i64 Mx.1) rfl
            have qVx1 := KVx3.out.cell 1 (v := .slice ax Mx.2.length cx) rfl
            have qVy0 := KVy3.out.cell 0 (v := .int .i64 My.1) rfl
            have qVy1 := KVy3.out.cell 1 (v := .slice ay My.2.length cy) rfl
            clear c1 ho hb hls
            go_wp2_with (first
              | (go_at_call 14; (with_reducible refine (HUc.out _ _ _ (HMx.out.later Hx3.out (Nat.le_refl _)) (HMy.out.later Hy3.out (Nat.le_refl _))).mono ?_); rintro e w4 ⟨v4, rfl, hm, hb⟩; have HMc : Hid (Mach w4 v4 (Z)) := hm; obtain ⟨vsc, rfl, hSc⟩ := hm; obtain ⟨ac, cc, rfl⟩ := hSc.sl; clear hSc; have hb4 := hb; have HB4 := hidP (HB3.out.trans (hb4.mono HB3.out.size)); have KVx4 := hidP (KVx3.out.below hb4 KVx3.out.lt); have KVy4 := hidP (KVy3.out.below hb4 KVy3.out.lt); have Hx4 := hidP (Hx3.out.trans (hb4.mono Hx3.out.size)); have Hy4 := hidP (Hy3.out.trans (hb4.mono Hy3.out.size)); have Hn4 := hidP hb4; have qVx0 := (KVx4.out.alloc (.cells #[.int .i64 Z.1, .slice ac Z.2.length cc] 24)).cell 0 (v := .int .i64 Mx.1) rfl; have qVx1 := (KVx4.out.alloc (.cells #[.int .i64 Z.1, .slice ac Z.2.length cc] 24)).cell 1 (v := .slice ax Mx.2.length cx) rfl; have qVy0 := (KVy4.out.alloc (.cells #[.int .i64 Z.1, .slice ac Z.2.length cc] 24)).cell 0 (v := .int .i64 My.1) rfl; have qVy1 := (KVy4.out.alloc (.cells #[.int .i64 Z.1, .slice ac Z.2.length cc] 24)).cell 1 (v := .slice ay My.2.length cy) rfl; clear hb hb4))
            go_ret
            exact ⟨rfl, (HB4.out.alloc HB4.out.size _)⟩
  · have HUc : Hid (∀ W v u, Mach W v (chnM lx kx) → Mach W u (chnM ly ky) → Calls Try.prog 14 #[v, u] W fun e w' => RatRes C 0 W e w') := fun W v u h1 h2 => by
      have := composeP_any v u _ _ W h1 (right_ok fx) h2 (right_ok fy)
      rw [ec] at this
      exact this
    have HTR : Hid (∀ W v, Mach W v C → Calls Try.prog 22 #[v] W fun e w' => ∃ v', e = .returned (.tuple #[v', .int .i64 0]) ∧ (∃ aa, Least (AheadC C.1 C.2) C.2.length aa ∧ ∃ bs, Least (BackC C.2) C.2.length bs ∧ Mach w' v' (trimM C.1 C.2 (keptL aa bs C.2.length))) ∧ Below W.heap.size W w') := fun W v h1 => trim_run v C W h1 (right_ok fc) fc
    have HPA : Hid (∀ aa bs, Least (AheadC C.1 C.2) C.2.length aa → Least (BackC C.2) C.2.length bs → ∀ W v, Mach W v (trimM C.1 C.2 (keptL aa bs C.2.length)) → Calls Try.prog 23 #[v] W fun e w' => e = .returned (.tuple #[.int .i64 (if nzL (outQ kx (chA lx)) = nzL (insQ ky (chA ly)) then 1 else 0), .int .i64 0]) ∧ Below W.heap.size W w') := fun aa bs hA hB W v h1 => by
      have ft : faultM (trimM C.1 C.2 (keptL aa bs C.2.length)) = 0 := trim_fault (z := C.1) (l := C.2) fc
      refine (paths_any v _ W h1 (right_ok ft) 0 ft).mono fun e w' hr => ?_
      obtain ⟨x, e9, he, hp, hb⟩ := hr
      obtain ⟨h2, h3⟩ := chn_once (chn_chain lx kx) (chn_chain ly ky) fx fy ec hA hB hp
      subst h2 h3
      exact ⟨he, hb⟩
    have HLV : Hid ((nzL (outQ kx (chA lx))).length ≤ 100) := by have := nz_out_len (chA lx) kx; show _ ≤ _; omega
    obtain ⟨sm, hsm⟩ : ∃ sm, decide (nzL (outQ kx (chA lx)) = nzL (insQ ky (chA ly))) = sm := ⟨_, rfl⟩
    have HSM := hidP hsm
    obtain ⟨rn, hrn⟩ : ∃ rn : Int, (if nzL (outQ kx (chA lx)) = nzL (insQ ky (chA ly)) then 1 else 0) = rn := ⟨_, rfl⟩
    rw [hrn] at HPA
    have t4 : ((C.2.length : Int) == 0) = false := by rw [beq_eq_false_iff_ne]; omega
    have hrn2 : (sm = true ∧ rn = 1) ∨ (sm = false ∧ rn = 0) := by
      by_cases g : nzL (outQ kx (chA lx)) = nzL (insQ ky (chA ly))
      · left; rw [if_pos g] at hrn; exact ⟨by rw [← hsm]; exact decide_eq_true g, hrn.symm⟩
      · right; rw [if_neg g] at hrn; exact ⟨by rw [← hsm]; exact decide_eq_false g, hrn.symm⟩
    clear hsm hrn fx fy ec fc cc pc z9C l9C
    generalize chnM lx kx = Mx at *
    generalize chnM ly ky = My at *
    rcases hrn2 with ⟨hsm, hrn⟩ | ⟨hsm, hrn⟩
    all_goals subst hsm hrn
    · have HB0 : Hid (Below w.heap.size w w) := Below.refl _ _
      obtain ⟨i0, hi0, hz0, hz1, hz2⟩ := info_parts infoIntU
      try clear kZ
      try clear z9C l9C
      try clear z9K l9K
      try clear z9P l9P
      try clear z9R l9R
      try clear z9D l9D
      go_enter Try.func7, Try.ntmps7
      go_wp2_with (first
        | (go_at_call 21; (with_reducible refine (HEx.out _ _ (HIx.out.later (HB0.out) (Nat.le_refl _))).mono ?_); rintro e w1 ⟨v1, rfl, hm, hb⟩; have HMx : Hid (Mach w1 v1 (Mx)) := hm; obtain ⟨vsx, rfl, hSx⟩ := hm; obtain ⟨ax, cx, rfl⟩ := hSx.sl; clear hSx; have hb1 := hb; have HB1 := hidP hb1; clear hb hb1)
        | (go_at_call 21; (with_reducible refine (HEy.out _ _ (HIy.out.later (HB1.out.alloc HB1.out.size _) (Nat.le_refl _))).mono ?_); rintro e w2 ⟨v2, rfl, hm, hb⟩; have HMy : Hid (Mach w2 v2 (My)) := hm; obtain ⟨vsy, rfl, hSy⟩ := hm; obtain ⟨ay, cy, rfl⟩ := hSy.sl; clear hSy; obtain ⟨s2, bb0, hb2⟩ := boxed hb (by simp); have KVx2 := hidP bb0; clear bb0; have HB2 := hidP (HB1.out.trans (hb2.mono HB1.out.size)); have Hx2 := hidP hb2; have qVx0 := (KVx2.out.alloc (.cells #[.int .i64 My.1, .slice ay My.2.length cy] 24)).cell 0 (v := .int .i64 Mx.1) rfl; have qVx1 := (KVx2.out.alloc (.cells #[.int .i64 My.1, .slice ay My.2.length cy] 24)).cell 1 (v := .slice ax Mx.2.length cx) rfl; clear hb hb2))
      have KVxN := hidP (KVx2.out.alloc (.cells #[.int .i64 My.1, .slice ay My.2.length cy] 24))
      have KVyN := hidP (Blk.made w2 #[.int .i64 My.1, .slice ay My.2.length cy] 24)
      have HBA := hidP (HB2.out.alloc HB2.out.size (.cells #[.int .i64 My.1, .slice ay My.2.length cy] 24))
      have HXx := hidP (Hx2.out.alloc Hx2.out.size (.cells #[.int .i64 My.1, .slice ay My.2.length cy] 24))
      have HXy := hidP ((Below.refl w2.heap.size w2).alloc (Nat.le_refl _) (.cells #[.int .i64 My.1, .slice ay My.2.length cy] 24))
      generalize w2.alloc (.cells #[.int .i64 My.1, .slice ay My.2.length cy] 24) = WA at *
      go_loopw [7, 8] (fun s7 s8 wr => ∃ (q n : Nat) (vr : Value) (ls : List Int), s7 = vr ∧ s8 = .int .i64 (q : Int) ∧ q ≤ kx ∧ Hid (ls = nzL (outQ q (chA lx))) ∧ Hid (ls.length = n) ∧ n ≤ q ∧ Hid (wr.ownsRow WA.heap.size 3 1 vr n (ls.flatMap encI1)) ∧ Hid (Below WA.heap.size WA wr)) (fun _ s8 _ => kx - (intOf s8).toNat)
      case atStart => exact ⟨0, 0, _, [], rfl, rfl, Nat.zero_le _, rfl, rfl, Nat.le_refl _, World.ownsRow_nil _ _ _ _, Below.refl _ _⟩
      case round =>
        obtain ⟨q, n, vr, ls, rfl, rfl, hq, hls, hn, hnq, ho, hb⟩ := hrel
        obtain ⟨w6, hw6⟩ : ∃ w6, w6 = wr := ⟨_, rfl⟩
        subst hw6
        obtain ⟨avr, cvr, hvr⟩ := own_sl ho.out
        subst hvr
        have c1 := (KVxN.out.below hb.out KVxN.out.lt).cell 1 (v := .slice ax Mx.2.length cx) rfl
        have hsz := hb.out.size
        have q0 : (0 : Int) ≤ (q : Int) := by omega
        have hsub : IntKind.i64.wrap ((Mx.2.length : Int) - 1) = (kx : Int) := by rw [HLx.out, wrapI (by omega) (by omega)]; omega
        by_cases hlt : q < kx
        · have q1 : (q : Int) < (kx : Int) := by omega
          have q2 : (q : Int) < (Mx.2.length : Int) := by have := HLx.out; omega
          obtain ⟨vsC, hvC, hSC⟩ := HMx.out
          simp only [Value.agg.injEq, Array.mk.injEq, List.cons.injEq, and_true, true_and] at hvC
          subst hvC
          obtain ⟨a9, c9, hv9, hcc⟩ := hSC.get
          simp only [Value.slice.injEq, true_and] at hv9
          obtain ⟨rfl, rfl⟩ := hv9
          obtain ⟨bs, os, va, hsome, hbs, g0, g1, gA⟩ := hcc q (by have := HLx.out; omega)
          subst hsome
          rw [HAx.out q hlt] at gA
          obtain ⟨aA, cA, hvA, hcA⟩ := gA.get
          subst hvA
          obtain ⟨bA, oA, hsA, hbA, r0, r1, _, _⟩ := hcA 0 (by simp)
          subst hsA
          have hMW : Below _ _ w6 := HXx.out.trans (hb.out.mono HXx.out.size)
          have g1 := (hMW.cell (p := ⟨bs, os + q * 2 + 1, none⟩) hbs).trans g1
          have r0 := (hMW.cell (p := ⟨bA, oA + 0 * 4, none⟩) hbA).trans r0
          have r1 := (hMW.cell (p := ⟨bA, oA + 0 * 4 + 1, none⟩) hbA).trans r1
          have hbd := chA_bd lx q
          have HNZ := hidP (nz_out (chA lx) q)
          rw [el_zero] at r0 r1
          simp only [Nat.zero_mul, Nat.add_zero, List.length_cons, List.length_nil, Nat.zero_add] at r0 r1 g1
          clear hcc hSC hcA gA g0 hMW
          obtain ⟨ca, hca⟩ : ∃ ca, chA lx q = ca := ⟨_, rfl⟩
          rw [hca] at r0 r1 hbd HNZ
          clear hca
          obtain ⟨y0, y1, y2, y3⟩ := ca
          simp only at r0 r1 hbd HNZ
          by_cases hz : y1 = 0
          · have hgt : ¬ y1 > 0 := by omega
            have HLS : Hid (ls = nzL (outQ (q + 1) (chA lx))) := by show _ = _; rw [HNZ.out, if_pos hz, List.append_nil]; exact hls.out
            clear hz
            go_wp2
            go_roundw
            case rel => exact ⟨q + 1, n, _, ls, rfl, by go_num, by omega, HLS, hn, by omega, ho, hb⟩
            case measure => simp [intOf]; omega
          · have hgt : y1 > 0 := by omega
            have HLS : Hid (ls ++ [y1] = nzL (outQ (q + 1) (chA lx))) := by show _ = _; rw [HNZ.out, if_neg hz, hls.out]
            have HD := ho
            clear ho hz
            go_wp2_with (first
              | (at_builtin; refine wpList_append_rows encI1_len (by decide) encI1_one rfl _ _ 40 rfl WA.heap.size 3 i0 _ 8 Try.underlying40 hi0 hz0 hz1 hz2 rfl _ n (ls.flatMap encI1) rfl (HD.out.alloc _) _ [y1] rfl (oneRow (enc := encI1) w6 (y1) rfl 3) (by simp; unfold maxLen; omega) (by simp; omega) (by simp; omega) ?_; intro v4 w4 ho4 hg4; have HO4 := hidP ho4; have HB4 : Hid (Below WA.heap.size WA w4) := (hb.out.alloc hsz _).grown hg4 (by simp; omega) (fun k hk => (HD.out.lt k hk).1); clear ho4 hg4))
            go_roundw
            case rel => exact ⟨q + 1, n + 1, _, ls ++ [y1], rfl, by go_num, by omega, HLS, (by show _ = _; rw [List.length_append, hn.out]; rfl), by omega, by rw [List.flatMap_append]; exact HO4, HB4⟩
            case measure => simp [intOf]; omega
        · have q1 : ¬ (q : Int) < (kx : Int) := by omega
          obtain rfl : kx = q := by omega
          have HNV : Hid (Nums w6 (.slice avr n cvr) (nzL (outQ kx (chA lx)))) := by rw [← hls.out]; exact Row.ofOwn encI1_len ho.out hn.out
          obtain ⟨VV, hVV⟩ : ∃ VV, Value.slice avr n cvr = VV := ⟨_, rfl⟩
          have HBB := hidP (HBA.out.trans (hb.out.mono HBA.out.size))
          have HXx := hidP (HXx.out.trans (hb.out.mono HXx.out.size))
          have HXy := hidP (HXy.out.trans (hb.out.mono HXy.out.size))
          have KVxN := hidP (KVxN.out.below hb.out KVxN.out.lt)
          have KVyN := hidP (KVyN.out.below hb.out KVyN.out.lt)
          go_wp2
          rw [hVV] at HNV
          clear hVV
          obtain ⟨WB, hWB⟩ : ∃ WB, WB = w6 := ⟨_, rfl⟩
          subst hWB
          clear c1 ho hb hls hsz hsub hn
          go_loopw [10, 11] (fun s7 s8 wr => ∃ (q n : Nat) (vr : Value) (ls : List Int), s7 = vr ∧ s8 = .int .i64 (q : Int) ∧ q ≤ ky ∧ Hid (ls = nzL (insQ q (chA ly))) ∧ Hid (ls.length = n) ∧ n ≤ q ∧ Hid (wr.ownsRow WB.heap.size 3 1 vr n (ls.flatMap encI1)) ∧ Hid (Below WB.heap.size WB wr)) (fun _ s8 _ => ky - (intOf s8).toNat)
          case atStart => exact ⟨0, 0, _, [], rfl, rfl, Nat.zero_le _, rfl, rfl, Nat.le_refl _, World.ownsRow_nil _ _ _ _, Below.refl _ _⟩
          case round =>
            obtain ⟨q, n, vr, ls, rfl, rfl, hq, hls, hn, hnq, ho, hb⟩ := hrel
            obtain ⟨w6, hw6⟩ : ∃ w6, w6 = wr := ⟨_, rfl⟩
            subst hw6
            obtain ⟨avr, cvr, hvr⟩ := own_sl ho.out
            subst hvr
            have c1 := (KVyN.out.below hb.out KVyN.out.lt).cell 1 (v := .slice ay My.2.length cy) rfl
            have hsz := hb.out.size
            have q0 : (0 : Int) ≤ (q : Int) := by omega
            have hsub : IntKind.i64.wrap ((My.2.length : Int) - 1) = (ky : Int) := by rw [HLy.out, wrapI (by omega) (by omega)]; omega
            by_cases hlt : q < ky
            · have q1 : (q : Int) < (ky : Int) := by omega
              have q2 : (q : Int) < (My.2.length : Int) := by have := HLy.out; omega
              obtain ⟨vsC, hvC, hSC⟩ := HMy.out
              simp only [Value.agg.injEq, Array.mk.injEq, List.cons.injEq, and_true, true_and] at hvC
              subst hvC
              obtain ⟨a9, c9, hv9, hcc⟩ := hSC.get
              simp only [Value.slice.injEq, true_and] at hv9
              obtain ⟨rfl, rfl⟩ := hv9
              obtain ⟨bs, os, va, hsome, hbs, g0, g1, gA⟩ := hcc q (by have := HLy.out; omega)
              subst hsome
              rw [HAy.out q hlt] at gA
              obtain ⟨aA, cA, hvA, hcA⟩ := gA.get
              subst hvA
              obtain ⟨bA, oA, hsA, hbA, r0, r1, _, _⟩ := hcA 0 (by simp)
              subst hsA
              have hMW : Below _ _ w6 := HXy.out.trans (hb.out.mono HXy.out.size)
              have g1 := (hMW.cell (p := ⟨bs, os + q * 2 + 1, none⟩) hbs).trans g1
              have r0 := (hMW.cell (p := ⟨bA, oA + 0 * 4, none⟩) hbA).trans r0
              have r1 := (hMW.cell (p := ⟨bA, oA + 0 * 4 + 1, none⟩) hbA).trans r1
              have hbd := chA_bd ly q
              have HNZ := hidP (nz_in (chA ly) q)
              rw [el_zero] at r0 r1
              simp only [Nat.zero_mul, Nat.add_zero, List.length_cons, List.length_nil, Nat.zero_add] at r0 r1 g1
              clear hcc hSC hcA gA g0 hMW
              obtain ⟨ca, hca⟩ : ∃ ca, chA ly q = ca := ⟨_, rfl⟩
              rw [hca] at r0 r1 hbd HNZ
              clear hca
              obtain ⟨y0, y1, y2, y3⟩ := ca
              simp only at r0 r1 hbd HNZ
              by_cases hz : y0 = 0
              · have hgt : ¬ y0 > 0 := by omega
                have HLS : Hid (ls = nzL (insQ (q + 1) (chA ly))) := by show _ = _; rw [HNZ.out, if_pos hz, List.append_nil]; exact hls.out
                clear hz
                go_wp2
                go_roundw
                case rel => exact ⟨q + 1, n, _, ls, rfl, by go_num, by omega, HLS, hn, by omega, ho, hb⟩
                case measure => simp [intOf]; omega
              · have hgt : y0 > 0 := by omega
                have HLS : Hid (ls ++ [y0] = nzL (insQ (q + 1) (chA ly))) := by show _ = _; rw [HNZ.out, if_neg hz, hls.out]
                have HD := ho
                clear ho hz
                go_wp2_with (first
                  | (at_builtin; refine wpList_append_rows encI1_len (by decide) encI1_one rfl _ _ 40 rfl WB.heap.size 3 i0 _ 8 Try.underlying40 hi0 hz0 hz1 hz2 rfl _ n (ls.flatMap encI1) rfl (HD.out.alloc _) _ [y0] rfl (oneRow (enc := encI1) w6 (y0) rfl 3) (by simp; unfold maxLen; omega) (by simp; omega) (by simp; omega) ?_; intro v4 w4 ho4 hg4; have HO4 := hidP ho4; have HB4 : Hid (Below WB.heap.size WB w4) := (hb.out.alloc hsz _).grown hg4 (by simp; omega) (fun k hk => (HD.out.lt k hk).1); clear ho4 hg4))
                go_roundw
                case rel => exact ⟨q + 1, n + 1, _, ls ++ [y0], rfl, by go_num, by omega, HLS, (by show _ = _; rw [List.length_append, hn.out]; rfl), by omega, by rw [List.flatMap_append]; exact HO4, HB4⟩
                case measure => simp [intOf]; omega
            · have q1 : ¬ (q : Int) < (ky : Int) := by omega
              obtain rfl : ky = q := by omega
              have HNw : Hid (Nums w6 (.slice avr n cvr) (nzL (insQ ky (chA ly)))) := by rw [← hls.out]; exact Row.ofOwn encI1_len ho.out hn.out
              have HNv : Hid (Nums w6 VV (nzL (outQ kx (chA lx)))) := HNV.out.later hb.out (Nat.le_refl _)
              have HB3 := hidP (HBB.out.trans (hb.out.mono HBB.out.size))
              have Hx3 := hidP (HXx.out.trans (hb.out.mono HXx.out.size))
              have Hy3 := hidP (HXy.out.trans (hb.out.mono HXy.out.size))
              have KVx3 := hidP (KVxN.out.below hb.out KVxN.out.lt)
              have KVy3 := hidP (KVyN.out.below hb.out KVyN.out.lt)
              have qVx0 := KVx3.out.cell 0 (v := .int .i64 Mx.1) rfl
              have qVx1 := KVx3.out.cell 1 (v := .slice ax Mx.2.length cx) rfl
              have qVy0 := KVy3.out.cell 0 (v := .int .i64 My.1) rfl
              have qVy1 := KVy3.out.cell 1 (v := .slice ay My.2.length cy) rfl
              clear c1 ho hb hls
              go_wp2_with (first
                | (go_at_call 14; (with_reducible refine (HUc.out _ _ _ (HMx.out.later Hx3.out (Nat.le_refl _)) (HMy.out.later Hy3.out (Nat.le_refl _))).mono ?_); rintro e w4 ⟨v4, rfl, hm, hb⟩; have HMc : Hid (Mach w4 v4 (C)) := hm; obtain ⟨vsc, rfl, hSc⟩ := hm; obtain ⟨ac, cc, rfl⟩ := hSc.sl; clear hSc; have hb4 := hb; have HB4 := hidP (HB3.out.trans (hb4.mono HB3.out.size)); have KVx4 := hidP (KVx3.out.below hb4 KVx3.out.lt); have KVy4 := hidP (KVy3.out.below hb4 KVy3.out.lt); have Hx4 := hidP (Hx3.out.trans (hb4.mono Hx3.out.size)); have Hy4 := hidP (Hy3.out.trans (hb4.mono Hy3.out.size)); have Hn4 := hidP hb4; have qVx0 := (KVx4.out.alloc (.cells #[.int .i64 C.1, .slice ac C.2.length cc] 24)).cell 0 (v := .int .i64 Mx.1) rfl; have qVx1 := (KVx4.out.alloc (.cells #[.int .i64 C.1, .slice ac C.2.length cc] 24)).cell 1 (v := .slice ax Mx.2.length cx) rfl; have qVy0 := (KVy4.out.alloc (.cells #[.int .i64 C.1, .slice ac C.2.length cc] 24)).cell 0 (v := .int .i64 My.1) rfl; have qVy1 := (KVy4.out.alloc (.cells #[.int .i64 C.1, .slice ac C.2.length cc] 24)).cell 1 (v := .slice ay My.2.length cy) rfl; clear hb hb4)
                | (go_at_call 22; (with_reducible refine (HTR.out _ _ (HMc.out.later ((Below.refl _ _).alloc (Nat.le_refl _) _) (Nat.le_refl _))).mono ?_); rintro e w5 ⟨v5, rfl, ⟨aa, hA, bs, hB, hm⟩, hb⟩; have HPT := hidP (HPA.out aa bs hA hB); have HMt := hidP hm; obtain ⟨vst, hvt, hSt⟩ := hm; subst hvt; obtain ⟨at9, ct9, hst⟩ := hSt.sl; subst hst; clear hSt hA hB; obtain ⟨TM, hTM⟩ : ∃ TM, trimM C.1 C.2 (keptL aa bs C.2.length) = TM := ⟨_, rfl⟩; rw [hTM] at HMt HPT ⊢; clear hTM; obtain ⟨s5, bb0, hb5⟩ := boxed hb (by simp); have KVc5 := hidP bb0; clear bb0; have HB5 := hidP (HB4.out.trans (hb5.mono HB4.out.size)); have KVx5 := hidP (KVx4.out.below hb5 KVx4.out.lt); have KVy5 := hidP (KVy4.out.below hb5 KVy4.out.lt); have Hx5 := hidP (Hx4.out.trans (hb5.mono Hx4.out.size)); have Hy5 := hidP (Hy4.out.trans (hb5.mono Hy4.out.size)); have Hn5 := hidP (Hn4.out.trans (hb5.mono Hn4.out.size)); have Hc5 := hidP hb5; have qVx0 := (KVx5.out.alloc (.cells #[.int .i64 TM.1, .slice at9 TM.2.length ct9] 24)).cell 0 (v := .int .i64 Mx.1) rfl; have qVx1 := (KVx5.out.alloc (.cells #[.int .i64 TM.1, .slice at9 TM.2.length ct9] 24)).cell 1 (v := .slice ax Mx.2.length cx) rfl; have qVy0 := (KVy5.out.alloc (.cells #[.int .i64 TM.1, .slice at9 TM.2.length ct9] 24)).cell 0 (v := .int .i64 My.1) rfl; have qVy1 := (KVy5.out.alloc (.cells #[.int .i64 TM.1, .slice at9 TM.2.length ct9] 24)).cell 1 (v := .slice ay My.2.length cy) rfl; have qVc0 := (KVc5.out.alloc (.cells #[.int .i64 TM.1, .slice at9 TM.2.length ct9] 24)).cell 0 (v := .int .i64 C.1) rfl; have qVc1 := (KVc5.out.alloc (.cells #[.int .i64 TM.1, .slice at9 TM.2.length ct9] 24)).cell 1 (v := .slice ac C.2.length cc) rfl; clear hb hb5)
                | (go_at_call 23; (with_reducible refine (HPT.out _ _ (HMt.out.later ((Below.refl _ _).alloc (Nat.le_refl _) _) (Nat.le_refl _))).mono ?_); rintro e w6 ⟨rfl, hb⟩; obtain ⟨s6, bb0, hb6⟩ := boxed hb (by simp); have KVt6 := hidP bb0; clear bb0; have HB6 := hidP (HB5.out.trans (hb6.mono HB5.out.size)); have KVx6 := hidP (KVx5.out.below hb6 KVx5.out.lt); have KVy6 := hidP (KVy5.out.below hb6 KVy5.out.lt); have KVc6 := hidP (KVc5.out.below hb6 KVc5.out.lt); have Hx6 := hidP (Hx5.out.trans (hb6.mono Hx5.out.size)); have Hy6 := hidP (Hy5.out.trans (hb6.mono Hy5.out.size)); have Hn6 := hidP (Hn5.out.trans (hb6.mono Hn5.out.size)); have Hc6 := hidP (Hc5.out.trans (hb6.mono Hc5.out.size)); have Ht6 := hidP hb6; have qVx0 := KVx6.out.cell 0 (v := .int .i64 Mx.1) rfl; have qVx1 := KVx6.out.cell 1 (v := .slice ax Mx.2.length cx) rfl; have qVy0 := KVy6.out.cell 0 (v := .int .i64 My.1) rfl; have qVy1 := KVy6.out.cell 1 (v := .slice ay My.2.length cy) rfl; have qVc0 := KVc6.out.cell 0 (v := .int .i64 C.1) rfl; have qVc1 := KVc6.out.cell 1 (v := .slice ac C.2.length cc) rfl; have qVt0 := KVt6.out.cell 0 (v := .int .i64 TM.1) rfl; have qVt1 := KVt6.out.cell 1 (v := .slice at9 TM.2.length ct9) rfl; clear hb hb6)
                | (go_at_call 24; (with_reducible refine (sameIntsK_any _ _ _ _ _ (HNv.out.later (Hn6.out) (Nat.le_refl _)) (HNw.out.later (Hn6.out) (Nat.le_refl _)) HLV.out _ HSM.out).mono ?_); rintro e w7 ⟨rfl, hb⟩; have hb7 := hb; have HB7 := hidP (HB6.out.trans (hb7.mono HB6.out.size)); have KVx7 := hidP (KVx6.out.below hb7 KVx6.out.lt); have KVy7 := hidP (KVy6.out.below hb7 KVy6.out.lt); have KVc7 := hidP (KVc6.out.below hb7 KVc6.out.lt); have KVt7 := hidP (KVt6.out.below hb7 KVt6.out.lt); have Hx7 := hidP (Hx6.out.trans (hb7.mono Hx6.out.size)); have Hy7 := hidP (Hy6.out.trans (hb7.mono Hy6.out.size)); have Hn7 := hidP (Hn6.out.trans (hb7.mono Hn6.out.size)); have Hc7 := hidP (Hc6.out.trans (hb7.mono Hc6.out.size)); have Ht7 := hidP (Ht6.out.trans (hb7.mono Ht6.out.size)); have qVx0 := KVx7.out.cell 0 (v := .int .i64 Mx.1) rfl; have qVx1 := KVx7.out.cell 1 (v := .slice ax Mx.2.length cx) rfl; have qVy0 := KVy7.out.cell 0 (v := .int .i64 My.1) rfl; have qVy1 := KVy7.out.cell 1 (v := .slice ay My.2.length cy) rfl; have qVc0 := KVc7.out.cell 0 (v := .int .i64 C.1) rfl; have qVc1 := KVc7.out.cell 1 (v := .slice ac C.2.length cc) rfl; have qVt0 := KVt7.out.cell 0 (v := .int .i64 TM.1) rfl; have qVt1 := KVt7.out.cell 1 (v := .slice at9 TM.2.length ct9) rfl; clear hb hb7))
              all_goals go_ret
              all_goals exact ⟨rfl, HB7.out⟩
    · have HB0 : Hid (Below w.heap.size w w) := Below.refl _ _
      obtain ⟨i0, hi0, hz0, hz1, hz2⟩ := info_parts infoIntU
      try clear kZ
      try clear z9C l9C
      try clear z9K l9K
      try clear z9P l9P
      try clear z9R l9R
      try clear z9D l9D
      go_enter Try.func7, Try.ntmps7
      go_wp2_with (first
        | (go_at_call 21; (with_reducible refine (HEx.out _ _ (HIx.out.later (HB0.out) (Nat.le_refl _))).mono ?_); rintro e w1 ⟨v1, rfl, hm, hb⟩; have HMx : Hid (Mach w1 v1 (Mx)) := hm; obtain ⟨vsx, rfl, hSx⟩ := hm; obtain ⟨ax, cx, rfl⟩ := hSx.sl; clear hSx; have hb1 := hb; have HB1 := hidP hb1; clear hb hb1)
        | (go_at_call 21; (with_reducible refine (HEy.out _ _ (HIy.out.later (HB1.out.alloc HB1.out.size _) (Nat.le_refl _))).mono ?_); rintro e w2 ⟨v2, rfl, hm, hb⟩; have HMy : Hid (Mach w2 v2 (My)) := hm; obtain ⟨vsy, rfl, hSy⟩ := hm; obtain ⟨ay, cy, rfl⟩ := hSy.sl; clear hSy; obtain ⟨s2, bb0, hb2⟩ := boxed hb (by simp); have KVx2 := hidP bb0; clear bb0; have HB2 := hidP (HB1.out.trans (hb2.mono HB1.out.size)); have Hx2 := hidP hb2; have qVx0 := (KVx2.out.alloc (.cells #[.int .i64 My.1, .slice ay My.2.length cy] 24)).cell 0 (v := .int .i64 Mx.1) rfl; have qVx1 := (KVx2.out.alloc (.cells #[.int .i64 My.1, .slice ay My.2.length cy] 24)).cell 1 (v := .slice ax Mx.2.length cx) rfl; clear hb hb2))
      have KVxN := hidP (KVx2.out.alloc (.cells #[.int .i64 My.1, .slice ay My.2.length cy] 24))
      have KVyN := hidP (Blk.made w2 #[.int .i64 My.1, .slice ay My.2.length cy] 24)
      have HBA := hidP (HB2.out.alloc HB2.out.size (.cells #[.int .i64 My.1, .slice ay My.2.length cy] 24))
      have HXx := hidP (Hx2.out.alloc Hx2.out.size (.cells #[.int .i64 My.1, .slice ay My.2.length cy] 24))
      have HXy := hidP ((Below.refl w2.heap.size w2).alloc (Nat.le_refl _) (.cells #[.int .i64 My.1, .slice ay My.2.length cy] 24))
      generalize w2.alloc (.cells #[.int .i64 My.1, .slice ay My.2.length cy] 24) = WA at *
      go_loopw [7, 8] (fun s7 s8 wr => ∃ (q n : Nat) (vr : Value) (ls : List Int), s7 = vr ∧ s8 = .int .i64 (q : Int) ∧ q ≤ kx ∧ Hid (ls = nzL (outQ q (chA lx))) ∧ Hid (ls.length = n) ∧ n ≤ q ∧ Hid (wr.ownsRow WA.heap.size 3 1 vr n (ls.flatMap encI1)) ∧ Hid (Below WA.heap.size WA wr)) (fun _ s8 _ => kx - (intOf s8).toNat)
      case atStart => exact ⟨0, 0, _, [], rfl, rfl, Nat.zero_le _, rfl, rfl, Nat.le_refl _, World.ownsRow_nil _ _ _ _, Below.refl _ _⟩
      case round =>
        obtain ⟨q, n, vr, ls, rfl, rfl, hq, hls, hn, hnq, ho, hb⟩ := hrel
        obtain ⟨w6, hw6⟩ : ∃ w6, w6 = wr := ⟨_, rfl⟩
        subst hw6
        obtain ⟨avr, cvr, hvr⟩ := own_sl ho.out
        subst hvr
        have c1 := (KVxN.out.below hb.out KVxN.out.lt).cell 1 (v := .slice ax Mx.2.length cx) rfl
        have hsz := hb.out.size
        have q0 : (0 : Int) ≤ (q : Int) := by omega
        have hsub : IntKind.i64.wrap ((Mx.2.length : Int) - 1) = (kx : Int) := by rw [HLx.out, wrapI (by omega) (by omega)]; omega
        by_cases hlt : q < kx
        · have q1 : (q : Int) < (kx : Int) := by omega
          have q2 : (q : Int) < (Mx.2.length : Int) := by have := HLx.out; omega
          obtain ⟨vsC, hvC, hSC⟩ := HMx.out
          simp only [Value.agg.injEq, Array.mk.injEq, List.cons.injEq, and_true, true_and] at hvC
          subst hvC
          obtain ⟨a9, c9, hv9, hcc⟩ := hSC.get
          simp only [Value.slice.injEq, true_and] at hv9
          obtain ⟨rfl, rfl⟩ := hv9
          obtain ⟨bs, os, va, hsome, hbs, g0, g1, gA⟩ := hcc q (by have := HLx.out; omega)
          subst hsome
          rw [HAx.out q hlt] at gA
          obtain ⟨aA, cA, hvA, hcA⟩ := gA.get
          subst hvA
          obtain ⟨bA, oA, hsA, hbA, r0, r1, _, _⟩ := hcA 0 (by simp)
          subst hsA
          have hMW : Below _ _ w6 := HXx.out.trans (hb.out.mono HXx.out.size)
          have g1 := (hMW.cell (p := ⟨bs, os + q * 2 + 1, none⟩) hbs).trans g1
          have r0 := (hMW.cell (p := ⟨bA, oA + 0 * 4, none⟩) hbA).trans r0
          have r1 := (hMW.cell (p := ⟨bA, oA + 0 * 4 + 1, none⟩) hbA).trans r1
          have hbd := chA_bd lx q
          have HNZ := hidP (nz_out (chA lx) q)
          rw [el_zero] at r0 r1
          simp only [Nat.zero_mul, Nat.add_zero, List.length_cons, List.length_nil, Nat.zero_add] at r0 r1 g1
          clear hcc hSC hcA gA g0 hMW
          obtain ⟨ca, hca⟩ : ∃ ca, chA lx q = ca := ⟨_, rfl⟩
          rw [hca] at r0 r1 hbd HNZ
          clear hca
          obtain ⟨y0, y1, y2, y3⟩ := ca
          simp only at r0 r1 hbd HNZ
          by_cases hz : y1 = 0
          · have hgt : ¬ y1 > 0 := by omega
            have HLS : Hid (ls = nzL (outQ (q + 1) (chA lx))) := by show _ = _; rw [HNZ.out, if_pos hz, List.append_nil]; exact hls.out
            clear hz
            go_wp2
            go_roundw
            case rel => exact ⟨q + 1, n, _, ls, rfl, by go_num, by omega, HLS, hn, by omega, ho, hb⟩
            case measure => simp [intOf]; omega
          · have hgt : y1 > 0 := by omega
            have HLS : Hid (ls ++ [y1] = nzL (outQ (q + 1) (chA lx))) := by show _ = _; rw [HNZ.out, if_neg hz, hls.out]
            have HD := ho
            clear ho hz
            go_wp2_with (first
              | (at_builtin; refine wpList_append_rows encI1_len (by decide) encI1_one rfl _ _ 40 rfl WA.heap.size 3 i0 _ 8 Try.underlying40 hi0 hz0 hz1 hz2 rfl _ n (ls.flatMap encI1) rfl (HD.out.alloc _) _ [y1] rfl (oneRow (enc := encI1) w6 (y1) rfl 3) (by simp; unfold maxLen; omega) (by simp; omega) (by simp; omega) ?_; intro v4 w4 ho4 hg4; have HO4 := hidP ho4; have HB4 : Hid (Below WA.heap.size WA w4) := (hb.out.alloc hsz _).grown hg4 (by simp; omega) (fun k hk => (HD.out.lt k hk).1); clear ho4 hg4))
            go_roundw
            case rel => exact ⟨q + 1, n + 1, _, ls ++ [y1], rfl, by go_num, by omega, HLS, (by show _ = _; rw [List.length_append, hn.out]; rfl), by omega, by rw [List.flatMap_append]; exact HO4, HB4⟩
            case measure => simp [intOf]; omega
        · have q1 : ¬ (q : Int) < (kx : Int) := by omega
          obtain rfl : kx = q := by omega
          have HNV : Hid (Nums w6 (.slice avr n cvr) (nzL (outQ kx (chA lx)))) := by rw [← hls.out]; exact Row.ofOwn encI1_len ho.out hn.out
          obtain ⟨VV, hVV⟩ : ∃ VV, Value.slice avr n cvr = VV := ⟨_, rfl⟩
          have HBB := hidP (HBA.out.trans (hb.out.mono HBA.out.size))
          have HXx := hidP (HXx.out.trans (hb.out.mono HXx.out.size))
          have HXy := hidP (HXy.out.trans (hb.out.mono HXy.out.size))
          have KVxN := hidP (KVxN.out.below hb.out KVxN.out.lt)
          have KVyN := hidP (KVyN.out.below hb.out KVyN.out.lt)
          go_wp2
          rw [hVV] at HNV
          clear hVV
          obtain ⟨WB, hWB⟩ : ∃ WB, WB = w6 := ⟨_, rfl⟩
          subst hWB
          clear c1 ho hb hls hsz hsub hn
          go_loopw [10, 11] (fun s7 s8 wr => ∃ (q n : Nat) (vr : Value) (ls : List Int), s7 = vr ∧ s8 = .int .i64 (q : Int) ∧ q ≤ ky ∧ Hid (ls = nzL (insQ q (chA ly))) ∧ Hid (ls.length = n) ∧ n ≤ q ∧ Hid (wr.ownsRow WB.heap.size 3 1 vr n (ls.flatMap encI1)) ∧ Hid (Below WB.heap.size WB wr)) (fun _ s8 _ => ky - (intOf s8).toNat)
          case atStart => exact ⟨0, 0, _, [], rfl, rfl, Nat.zero_le _, rfl, rfl, Nat.le_refl _, World.ownsRow_nil _ _ _ _, Below.refl _ _⟩
          case round =>
            obtain ⟨q, n, vr, ls, rfl, rfl, hq, hls, hn, hnq, ho, hb⟩ := hrel
            obtain ⟨w6, hw6⟩ : ∃ w6, w6 = wr := ⟨_, rfl⟩
            subst hw6
            obtain ⟨avr, cvr, hvr⟩ := own_sl ho.out
            subst hvr
            have c1 := (KVyN.out.below hb.out KVyN.out.lt).cell 1 (v := .slice ay My.2.length cy) rfl
            have hsz := hb.out.size
            have q0 : (0 : Int) ≤ (q : Int) := by omega
            have hsub : IntKind.i64.wrap ((My.2.length : Int) - 1) = (ky : Int) := by rw [HLy.out, wrapI (by omega) (by omega)]; omega
            by_cases hlt : q < ky
            · have q1 : (q : Int) < (ky : Int) := by omega
              have q2 : (q : Int) < (My.2.length : Int) := by have := HLy.out; omega
              obtain ⟨vsC, hvC, hSC⟩ := HMy.out
              simp only [Value.agg.injEq, Array.mk.injEq, List.cons.injEq, and_true, true_and] at hvC
              subst hvC
              obtain ⟨a9, c9, hv9, hcc⟩ := hSC.get
              simp only [Value.slice.injEq, true_and] at hv9
              obtain ⟨rfl, rfl⟩ := hv9
              obtain ⟨bs, os, va, hsome, hbs, g0, g1, gA⟩ := hcc q (by have := HLy.out; omega)
              subst hsome
              rw [HAy.out q hlt] at gA
              obtain ⟨aA, cA, hvA, hcA⟩ := gA.get
              subst hvA
              obtain ⟨bA, oA, hsA, hbA, r0, r1, _, _⟩ := hcA 0 (by simp)
              subst hsA
              have hMW : Below _ _ w6 := HXy.out.trans (hb.out.mono HXy.out.size)
              have g1 := (hMW.cell (p := ⟨bs, os + q * 2 + 1, none⟩) hbs).trans g1
              have r0 := (hMW.cell (p := ⟨bA, oA + 0 * 4, none⟩) hbA).trans r0
              have r1 := (hMW.cell (p := ⟨bA, oA + 0 * 4 + 1, none⟩) hbA).trans r1
              have hbd := chA_bd ly q
              have HNZ := hidP (nz_in (chA ly) q)
              rw [el_zero] at r0 r1
              simp only [Nat.zero_mul, Nat.add_zero, List.length_cons, List.length_nil, Nat.zero_add] at r0 r1 g1
              clear hcc hSC hcA gA g0 hMW
              obtain ⟨ca, hca⟩ : ∃ ca, chA ly q = ca := ⟨_, rfl⟩
              rw [hca] at r0 r1 hbd HNZ
              clear hca
              obtain ⟨y0, y1, y2, y3⟩ := ca
              simp only at r0 r1 hbd HNZ
              by_cases hz : y0 = 0
              · have hgt : ¬ y0 > 0 := by omega
                have HLS : Hid (ls = nzL (insQ (q + 1) (chA ly))) := by show _ = _; rw [HNZ.out, if_pos hz, List.append_nil]; exact hls.out
                clear hz
                go_wp2
                go_roundw
                case rel => exact ⟨q + 1, n, _, ls, rfl, by go_num, by omega, HLS, hn, by omega, ho, hb⟩
                case measure => simp [intOf]; omega
              · have hgt : y0 > 0 := by omega
                have HLS : Hid (ls ++ [y0] = nzL (insQ (q + 1) (chA ly))) := by show _ = _; rw [HNZ.out, if_neg hz, hls.out]
                have HD := ho
                clear ho hz
                go_wp2_with (first
                  | (at_builtin; refine wpList_append_rows encI1_len (by decide) encI1_one rfl _ _ 40 rfl WB.heap.size 3 i0 _ 8 Try.underlying40 hi0 hz0 hz1 hz2 rfl _ n (ls.flatMap encI1) rfl (HD.out.alloc _) _ [y0] rfl (oneRow (enc := encI1) w6 (y0) rfl 3) (by simp; unfold maxLen; omega) (by simp; omega) (by simp; omega) ?_; intro v4 w4 ho4 hg4; have HO4 := hidP ho4; have HB4 : Hid (Below WB.heap.size WB w4) := (hb.out.alloc hsz _).grown hg4 (by simp; omega) (fun k hk => (HD.out.lt k hk).1); clear ho4 hg4))
                go_roundw
                case rel => exact ⟨q + 1, n + 1, _, ls ++ [y0], rfl, by go_num, by omega, HLS, (by show _ = _; rw [List.length_append, hn.out]; rfl), by omega, by rw [List.flatMap_append]; exact HO4, HB4⟩
                case measure => simp [intOf]; omega
            · have q1 : ¬ (q : Int) < (ky : Int) := by omega
              obtain rfl : ky = q := by omega
              have HNw : Hid (Nums w6 (.slice avr n cvr) (nzL (insQ ky (chA ly)))) := by rw [← hls.out]; exact Row.ofOwn encI1_len ho.out hn.out
              have HNv : Hid (Nums w6 VV (nzL (outQ kx (chA lx)))) := HNV.out.later hb.out (Nat.le_refl _)
              have HB3 := hidP (HBB.out.trans (hb.out.mono HBB.out.size))
              have Hx3 := hidP (HXx.out.trans (hb.out.mono HXx.out.size))
              have Hy3 := hidP (HXy.out.trans (hb.out.mono HXy.out.size))
              have KVx3 := hidP (KVxN.out.below hb.out KVxN.out.lt)
              have KVy3 := hidP (KVyN.out.below hb.out KVyN.out.lt)
              have qVx0 := KVx3.out.cell 0 (v := .int .i64 Mx.1) rfl
              have qVx1 := KVx3.out.cell 1 (v := .slice ax Mx.2.length cx) rfl
              have qVy0 := KVy3.out.cell 0 (v := .int .i64 My.1) rfl
              have qVy1 := KVy3.out.cell 1 (v := .slice ay My.2.length cy) rfl
              clear c1 ho hb hls
              go_wp2_with (first
                | (go_at_call 14; (with_reducible refine (HUc.out _ _ _ (HMx.out.later Hx3.out (Nat.le_refl _)) (HMy.out.later Hy3.out (Nat.le_refl _))).mono ?_); rintro e w4 ⟨v4, rfl, hm, hb⟩; have HMc : Hid (Mach w4 v4 (C)) := hm; obtain ⟨vsc, rfl, hSc⟩ := hm; obtain ⟨ac, cc, rfl⟩ := hSc.sl; clear hSc; have hb4 := hb; have HB4 := hidP (HB3.out.trans (hb4.mono HB3.out.size)); have KVx4 := hidP (KVx3.out.below hb4 KVx3.out.lt); have KVy4 := hidP (KVy3.out.below hb4 KVy3.out.lt); have Hx4 := hidP (Hx3.out.trans (hb4.mono Hx3.out.size)); have Hy4 := hidP (Hy3.out.trans (hb4.mono Hy3.out.size)); have Hn4 := hidP hb4; have qVx0 := (KVx4.out.alloc (.cells #[.int .i64 C.1, .slice ac C.2.length cc] 24)).cell 0 (v := .int .i64 Mx.1) rfl; have qVx1 := (KVx4.out.alloc (.cells #[.int .i64 C.1, .slice ac C.2.length cc] 24)).cell 1 (v := .slice ax Mx.2.length cx) rfl; have qVy0 := (KVy4.out.alloc (.cells #[.int .i64 C.1, .slice ac C.2.length cc] 24)).cell 0 (v := .int .i64 My.1) rfl; have qVy1 := (KVy4.out.alloc (.cells #[.int .i64 C.1, .slice ac C.2.length cc] 24)).cell 1 (v := .slice ay My.2.length cy) rfl; clear hb hb4)
                | (go_at_call 22; (with_reducible refine (HTR.out _ _ (HMc.out.later ((Below.refl _ _).alloc (Nat.le_refl _) _) (Nat.le_refl _))).mono ?_); rintro e w5 ⟨v5, rfl, ⟨aa, hA, bs, hB, hm⟩, hb⟩; have HPT := hidP (HPA.out aa bs hA hB); have HMt := hidP hm; obtain ⟨vst, hvt, hSt⟩ := hm; subst hvt; obtain ⟨at9, ct9, hst⟩ := hSt.sl; subst hst; clear hSt hA hB; obtain ⟨TM, hTM⟩ : ∃ TM, trimM C.1 C.2 (keptL aa bs C.2.length) = TM := ⟨_, rfl⟩; rw [hTM] at HMt HPT ⊢; clear hTM; obtain ⟨s5, bb0, hb5⟩ := boxed hb (by simp); have KVc5 := hidP bb0; clear bb0; have HB5 := hidP (HB4.out.trans (hb5.mono HB4.out.size)); have KVx5 := hidP (KVx4.out.below hb5 KVx4.out.lt); have KVy5 := hidP (KVy4.out.below hb5 KVy4.out.lt); have Hx5 := hidP (Hx4.out.trans (hb5.mono Hx4.out.size)); have Hy5 := hidP (Hy4.out.trans (hb5.mono Hy4.out.size)); have Hn5 := hidP (Hn4.out.trans (hb5.mono Hn4.out.size)); have Hc5 := hidP hb5; have qVx0 := (KVx5.out.alloc (.cells #[.int .i64 TM.1, .slice at9 TM.2.length ct9] 24)).cell 0 (v := .int .i64 Mx.1) rfl; have qVx1 := (KVx5.out.alloc (.cells #[.int .i64 TM.1, .slice at9 TM.2.length ct9] 24)).cell 1 (v := .slice ax Mx.2.length cx) rfl; have qVy0 := (KVy5.out.alloc (.cells #[.int .i64 TM.1, .slice at9 TM.2.length ct9] 24)).cell 0 (v := .int .i64 My.1) rfl; have qVy1 := (KVy5.out.alloc (.cells #[.int .i64 TM.1, .slice at9 TM.2.length ct9] 24)).cell 1 (v := .slice ay My.2.length cy) rfl; have qVc0 := (KVc5.out.alloc (.cells #[.int .i64 TM.1, .slice at9 TM.2.length ct9] 24)).cell 0 (v := .int .i64 C.1) rfl; have qVc1 := (KVc5.out.alloc (.cells #[.int .i64 TM.1, .slice at9 TM.2.length ct9] 24)).cell 1 (v := .slice ac C.2.length cc) rfl; clear hb hb5)
                | (go_at_call 23; (with_reducible refine (HPT.out _ _ (HMt.out.later ((Below.refl _ _).alloc (Nat.le_refl _) _) (Nat.le_refl _))).mono ?_); rintro e w6 ⟨rfl, hb⟩; obtain ⟨s6, bb0, hb6⟩ := boxed hb (by simp); have KVt6 := hidP bb0; clear bb0; have HB6 := hidP (HB5.out.trans (hb6.mono HB5.out.size)); have KVx6 := hidP (KVx5.out.below hb6 KVx5.out.lt); have KVy6 := hidP (KVy5.out.below hb6 KVy5.out.lt); have KVc6 := hidP (KVc5.out.below hb6 KVc5.out.lt); have Hx6 := hidP (Hx5.out.trans (hb6.mono Hx5.out.size)); have Hy6 := hidP (Hy5.out.trans (hb6.mono Hy5.out.size)); have Hn6 := hidP (Hn5.out.trans (hb6.mono Hn5.out.size)); have Hc6 := hidP (Hc5.out.trans (hb6.mono Hc5.out.size)); have Ht6 := hidP hb6; have qVx0 := KVx6.out.cell 0 (v := .int .i64 Mx.1) rfl; have qVx1 := KVx6.out.cell 1 (v := .slice ax Mx.2.length cx) rfl; have qVy0 := KVy6.out.cell 0 (v := .int .i64 My.1) rfl; have qVy1 := KVy6.out.cell 1 (v := .slice ay My.2.length cy) rfl; have qVc0 := KVc6.out.cell 0 (v := .int .i64 C.1) rfl; have qVc1 := KVc6.out.cell 1 (v := .slice ac C.2.length cc) rfl; have qVt0 := KVt6.out.cell 0 (v := .int .i64 TM.1) rfl; have qVt1 := KVt6.out.cell 1 (v := .slice at9 TM.2.length ct9) rfl; clear hb hb6)
                | (go_at_call 24; (with_reducible refine (sameIntsK_any _ _ _ _ _ (HNv.out.later (Hn6.out) (Nat.le_refl _)) (HNw.out.later (Hn6.out) (Nat.le_refl _)) HLV.out _ HSM.out).mono ?_); rintro e w7 ⟨rfl, hb⟩; have hb7 := hb; have HB7 := hidP (HB6.out.trans (hb7.mono HB6.out.size)); have KVx7 := hidP (KVx6.out.below hb7 KVx6.out.lt); have KVy7 := hidP (KVy6.out.below hb7 KVy6.out.lt); have KVc7 := hidP (KVc6.out.below hb7 KVc6.out.lt); have KVt7 := hidP (KVt6.out.below hb7 KVt6.out.lt); have Hx7 := hidP (Hx6.out.trans (hb7.mono Hx6.out.size)); have Hy7 := hidP (Hy6.out.trans (hb7.mono Hy6.out.size)); have Hn7 := hidP (Hn6.out.trans (hb7.mono Hn6.out.size)); have Hc7 := hidP (Hc6.out.trans (hb7.mono Hc6.out.size)); have Ht7 := hidP (Ht6.out.trans (hb7.mono Ht6.out.size)); have qVx0 := KVx7.out.cell 0 (v := .int .i64 Mx.1) rfl; have qVx1 := KVx7.out.cell 1 (v := .slice ax Mx.2.length cx) rfl; have qVy0 := KVy7.out.cell 0 (v := .int .i64 My.1) rfl; have qVy1 := KVy7.out.cell 1 (v := .slice ay My.2.length cy) rfl; have qVc0 := KVc7.out.cell 0 (v := .int .i64 C.1) rfl; have qVc1 := KVc7.out.cell 1 (v := .slice ac C.2.length cc) rfl; have qVt0 := KVt7.out.cell 0 (v := .int .i64 TM.1) rfl; have qVt1 := KVt7.out.cell 1 (v := .slice at9 TM.2.length ct9) rfl; clear hb hb7))
              all_goals go_ret
              all_goals exact ⟨rfl, HB7.out⟩
theorem walk (vx : Value) (lx : List Ar) (vy : Value) (ly : List Ar) (w : World) (hx : Arcs w vx lx ∧ (∀ a ∈ lx, wfA a) ∧ lx.length * 32 ≤ 140737488351232) (hy : Arcs w vy ly ∧ (∀ a ∈ ly, wfA a) ∧ ly.length * 32 ≤ 140737488351232) :
    Calls Try.prog 7 #[vx, vy] w fun e w' => e = .returned (.bool true) ∧ Below w.heap.size w w' := core vx lx vy ly w hx hy

set_option maxRecDepth 100000 in
theorem lifted (os : Os) (started : os.Started) (H : Type) (enc : TypeId × Value → H) :
    ReturnsInHanded {} Try.checked os 7 .any (Rows.composeOnceSpec.pre6 enc Try.prog Try.f7 Rows.composeOnceRow.domain false) (Rows.composeOnceSpec.post enc Try.prog Try.f7 false true false false) := by
  refine returnsInHanded_of_change_sized (C := Try.checked) own started (by kernel_rfl) Try.func7
    (ChangeSpec.witness6 (enc := enc) (C := Try.checked) false ⟨#[], #[.slice none 0 0, .slice none 0 0], []⟩ 8 (by kernel_rfl) (by kernel_rfl) (by kernel_rfl) (by kernel_rfl)) ?_
  intro W base args ds gs before hval0 hW hcnd hsz0 _
  have hsz : (DataW.weightsEach Try.prog (Try.f7.params.toList ++ Rows.composeOnceSpec.plain.varTypes Try.prog) (ds ++ gs)).all (· ≤ reachBytes) = true := hsz0
  have hval : ∀ (j : Nat) t v, Try.f7.params[j]? = some t → args[j]? = some v → Value.okWide Try.prog W .any base t v := hval0
  clear hval0 hsz0
  have hW' := hW
  obtain ⟨p, q, hA0, hV, rfl, hfz, hnd⟩ := hW
  have hA : DataW.TrodAll enc Try.prog W 0 (fun _ => true) true Try.f7.params.toList args.toList ds p := hA0
  rw [Try.params7] at hA hval hsz
  obtain ⟨v0, vs0, d0, ds0, p0, q0, hargs, rfl, rfl, h0, r0⟩ := trodAll_cons hA
  obtain ⟨v1, vs1, d1, ds1, p1, q1, rfl, rfl, rfl, h1, r1⟩ := trodAll_cons r0
  obtain ⟨rfl, rfl, rfl⟩ := trodAll_nil r1
  obtain rfl : args = #[v0, v1] := by cases args; simp_all
  obtain ⟨rfl, rfl⟩ := trodVars_none hV
  have k0 := h0
  have lt0 : ∀ x ∈ p0, x.block < W.heap.size := by obtain ⟨m, hm⟩ := k0; exact DataW.trod_lt m _ _ _ hm
  obtain ⟨z0, w0⟩ : ∃ l : List Ar, Arcs W v0 l ∧ (∀ a ∈ l, wfA a) ∧ l.length * 32 ≤ 140737488351232 := by
    obtain ⟨al0, ll0, cl0, rfl⟩ := okWide_slice Try.underlying48 (hval 0 48 v0 rfl rfl)
    obtain ⟨fuel, hf⟩ := h0
    exact open_arcs (v := .slice al0 ll0 cl0) Try.underlying48 Try.underlying78 (by kernel_rfl) (by kernel_rfl) Try.underlying3 Try.underlying3 Try.underlying3 Try.underlying3 (by kernel_rfl) hf (Fits.arg hsz (j := 0) rfl rfl)
  have k1 := h1
  have lt1 : ∀ x ∈ p1, x.block < W.heap.size := by obtain ⟨m, hm⟩ := k1; exact DataW.trod_lt m _ _ _ hm
  obtain ⟨z1, w1⟩ : ∃ l : List Ar, Arcs W v1 l ∧ (∀ a ∈ l, wfA a) ∧ l.length * 32 ≤ 140737488351232 := by
    obtain ⟨al1, ll1, cl1, rfl⟩ := okWide_slice Try.underlying48 (hval 1 48 v1 rfl rfl)
    obtain ⟨fuel, hf⟩ := h1
    exact open_arcs (v := .slice al1 ll1 cl1) Try.underlying48 Try.underlying78 (by kernel_rfl) (by kernel_rfl) Try.underlying3 Try.underlying3 Try.underlying3 Try.underlying3 (by kernel_rfl) hf (Fits.arg hsz (j := 1) rfl rfl)
  refine (walk v0 z0 v1 z1 W w0 w1).mono fun e W' ⟨he, bel⟩ => ?_
  subst he
  exact ⟨_, rfl, _, _, _, [], _, [], hW', trodAll_mk1 (shut_bool Try.underlying4 _), (trodAll_cons_mk (Below.trod laidOut (by kernel_rfl) (of_decide_eq_true (by kernel_rfl)) k0 bel lt0) (trodAll_cons_mk (Below.trod laidOut (by kernel_rfl) (of_decide_eq_true (by kernel_rfl)) k1 bel lt1) trodAll_mk0)), rfl, bel.frame _, fun h => by cases h⟩
end Go.Proofs.Ythcfkiinjcbajaa.composeOnce
namespace Go.Proofs.Ythcfkiinjcbajaa
theorem composeOnce_holds : Rows.ComposeOnceSaid :=
  OpenClaim.holds_of_wide 7 Try.f7 rfl rfl rfl rfl rfl rfl rfl ⟨rfl, rfl, rfl, rfl, rfl⟩ rfl rfl rfl rfl rfl (by kernel_rfl) Try.func7 (by kernel_rfl)
    (of_decide_eq_true (by kernel_rfl)) (by unfold Func.isWrapper; first | (rw [if_pos (by decide +kernel)]; kernel_rfl) | (rw [if_neg (by decide +kernel)]; exact ⟨rfl, rfl⟩))
    (fun os started H enc _ => composeOnce.lifted os started H enc)
#print axioms composeOnce_holds
end Go.Proofs.Ythcfkiinjcbajaa
