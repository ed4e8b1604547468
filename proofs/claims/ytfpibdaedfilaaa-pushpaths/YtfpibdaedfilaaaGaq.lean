/- The program: the states that are left, and what leads from one to another of them. -/
import Derived.Test.YtfpibdaedfilaaaGap
import Derived.Test.YtfpibdaedfilaaaGae
import Derived.Test.YtfpibdaedfilaaaGao
import Derived.Test.YtfpibdaedfilaaaGaf
namespace Go.Proofs.Ytfpibdaedfilaaa.Wt
open Go.ChangeShapes Go.WideShapes Go.ChangeAt Go.RowKit
open Go.Proofs.Ytfpibdaedfilaaa.Pl
set_option linter.unusedVariables false
set_option linter.unusedSimpArgs false
theorem OwnSts.lt {w : World} {base : Nat} {v : Value} {l : List St} (h : OwnSts w base v l) : ∀ k, v.ownBlock = some k → base ≤ k ∧ k < w.heap.size := by
 obtain ⟨vs, h1, _⟩ := h
 exact fun k hk => h1.lt k hk
def stN (z : Int) (ks : List Int) (q : Nat) : Int := if z < (q : Int) then placeI ks z else -1
def HeldO (BL X : Nat) (vt va : Value) (f : Int) (w : World) : Prop := w.cell? ⟨BL, 1, none⟩ = some vt ∧ w.cell? ⟨X, 0, none⟩ = some (.int .i64 f) ∧ w.cell? ⟨X, 1, none⟩ = some va
theorem HeldO.later {BL X B : Nat} {vt va : Value} {f : Int} {w w' : World} (h : HeldO BL X vt va f w) (hb : Below B w w') (h1 : BL < B) (h2 : X < B) : HeldO BL X vt va f w' := ⟨(hb.cell (p := ⟨BL, 1, none⟩) h1).trans h.1, (hb.cell (p := ⟨X, 0, none⟩) h2).trans h.2.1, (hb.cell (p := ⟨X, 1, none⟩) h2).trans h.2.2⟩
set_option maxRecDepth 100000 in
set_option maxHeartbeats 6400000 in
theorem only_any (z : Int) (vs : Value) (l : List St) (vn : Value) (ns : List Int) (aa bs : List Bool) (w : World) (h : Mach w (.agg #[.int .i64 z, vs]) (z, l)) (hok : okM (z, l)) (hr : faultM (z, l) = 0) (hN : Nums w vn ns) (hl : ns.length = l.length) (hns : ∀ j, j < l.length → el ns j = placeI (keptL aa bs l.length) (j : Int)) :
    Calls Try.prog 44 #[.agg #[.int .i64 z, vs], vn] w fun e w' => ∃ vt, e = .returned (.agg #[.int .i64 (placeI (keptL aa bs l.length) z), vt]) ∧ OwnSts w' (w.heap.size + 3) vt ((keptL aa bs l.length).map (trimS l (keptL aa bs l.length))) ∧ Below w.heap.size w w' := by
  obtain ⟨vs', hvs, hS⟩ := h
  simp only [Value.agg.injEq, Array.mk.injEq, List.cons.injEq, and_true, true_and] at hvs
  subst hvs
  obtain ⟨a, cap, rfl, hc⟩ := hS.get
  have HNV : Hid (Nums w vn ns) := hN
  obtain ⟨xn, cn, hvn, hcn⟩ := hN.get
  rw [hl] at hvn hcn
  have h60 := (right_size hr).1
  have HLK : Hid (∀ j, j < l.length → (el l j).2.length * 32 ≤ 140737488351232) := hok.2
  have HC : Hid (∀ j, j < l.length → ∃ b off va, a = some ⟨b, off, none⟩ ∧ b < w.heap.size ∧ w.cell? ⟨b, off + j * 2, none⟩ = some (.int .i64 (el l j).1) ∧ w.cell? ⟨b, off + j * 2 + 1, none⟩ = some va ∧ Arcs w va (el l j).2) := hc
  have HCN : Hid (∀ j, j < l.length → ∃ b off, xn = some ⟨b, off, none⟩ ∧ b < w.heap.size ∧ w.cell? ⟨b, off + j, none⟩ = some (.int .i64 (el ns j))) := hcn
  have HNS : Hid (∀ j, j < l.length → el ns j = placeI (keptL aa bs l.length) (j : Int)) := hns
  have HTO : Hid (∀ j, j < l.length → ∀ c ∈ (el l j).2, ∃ t : Nat, c.2.2.2 = (t : Int) ∧ t < l.length) := fun j hj c hc => to_right hr hj hc
  have hzr := (faultM_zero hr).2
  simp only [rangeB, Bool.and_eq_true, inB, decide_eq_true_eq] at hzr
  have HZ : Hid (-1 ≤ z ∧ z < (l.length : Int)) := ⟨hzr.1.1, by show z < _; omega⟩
  have HKP : Hid (∀ q, q < l.length → (0 ≤ placeI (keptL aa bs l.length) (q : Int) → keptL aa bs (q + 1) = keptL aa bs q ++ [(q : Int)]) ∧ (¬ 0 ≤ placeI (keptL aa bs l.length) (q : Int) → keptL aa bs (q + 1) = keptL aa bs q)) := fun q hq => by
    have h9 := keptL_iff (a := aa) (b := bs) (n := l.length) (q := q)
    rw [← placeI_nonneg (keptL_sorted aa bs l.length)] at h9
    rw [keptL_succ]
    refine ⟨fun h8 => ?_, fun h8 => ?_⟩
    · have h7 := h9.1 h8
      rw [h7.2.1, h7.2.2]; rfl
    · rw [if_neg (fun h7 => h8 (h9.2 ⟨hq, by simpa using h7⟩)), List.append_nil]
  have HLN : Hid (∀ q, (keptL aa bs q).length ≤ q) := fun q => keptL_le aa bs q
  clear hS hc hcn hns hok hr hN hzr
  subst hvn
  generalize hks : keptL aa bs l.length = ks at *
  have HKE : Hid (keptL aa bs l.length = ks) := hks
  clear hks
  generalize hn : l.length = n at *
  have HN : Hid (l.length = n) := hn
  clear hn
  go_enter Try.func44, Try.ntmps44
  go_wp2
  go_loopw [12] (fun i wr => ∃ (q : Nat) (vt : Value), q ≤ n ∧ i = .int .i64 q ∧ Hid (OwnSts wr (w.heap.size + 3) vt ((keptL aa bs q).map (trimS l ks))) ∧ Hid (Blk wr (w.heap.size + 1 + 1) #[.int .i64 (stN z ks q), vt] 27) ∧ Hid (Blk wr w.heap.size #[.int .i64 z, .slice a n cap] 27) ∧ Hid (Blk wr (w.heap.size + 1) #[.int .i64 0, .slice none 0 0] 27) ∧ Hid (Below w.heap.size w wr) ∧ w.heap.size + 3 ≤ wr.heap.size) (fun i _ => n - (intOf i).toNat)
  case atStart =>
    refine ⟨0, .slice none 0 0, Nat.zero_le _, rfl, OwnSts.nil _ _, ?_, ?_, ?_, ?_, by simp⟩
    · have h0 : stN z ks 0 = -1 := by
        unfold stN
        split
        · rw [placeI_not]
          intro h9
          rw [← HKE.out] at h9
          obtain ⟨q, h8, _⟩ := keptL_mem h9
          omega
        · rfl
      rw [h0]
      have h9 := Blk.made ((w.alloc (.cells #[.int .i64 z, .slice a n cap] 27)).alloc (.cells #[.int .i64 0, .slice none 0 0] 27)) #[.int .i64 (-1), .slice none 0 0] 27
      simp only [World.size_alloc] at h9
      exact h9
    · exact ((Blk.made w _ _).alloc _).alloc _
    · have h9 := (Blk.made (w.alloc (.cells #[.int .i64 z, .slice a n cap] 27)) #[.int .i64 0, .slice none 0 0] 27).alloc (.cells #[.int .i64 (-1), .slice none 0 0] 27)
      simp only [World.size_alloc] at h9
      exact h9
    · exact (((Below.refl _ _).alloc (Nat.le_refl _) _).alloc (by simp) _).alloc (by simp; omega) _
  case round =>
    obtain ⟨q, vt, hq, rfl, hos, hbl, hbx, hbr, hb, hsz⟩ := hrel
    by_cases hqn : q < n
    · obtain ⟨b, off, va, rfl, hbl', g0, g1, gA⟩ := HC.out q hqn
      obtain ⟨bn, on, rfl, hbnl, m0⟩ := HCN.out q hqn
      have HGA : Hid (Arcs w va (el l q).2) := gA
      obtain ⟨a2, cap2, hva⟩ := gA.sl
      have g0 := (hb.out.cell (p := ⟨b, off + q * 2, none⟩) hbl').trans g0
      have g1 := (hb.out.cell (p := ⟨b, off + q * 2 + 1, none⟩) hbl').trans g1
      have HM0 : Hid (w.cell? ⟨bn, on + q, none⟩ = some (.int .i64 (placeI ks (q : Int)))) := by show _ = _; rw [m0, HNS.out q hqn]
      have m0 := (hb.out.cell (p := ⟨bn, on + q, none⟩) hbnl).trans HM0.out
      obtain ⟨hkp, hkn⟩ := HKP.out q hqn
      have HTE : Hid (trimS l ks (q : Int) = ((el l q).1, trimA ks (el l q).2)) := by show _ = _; unfold trimS; rw [Int.toNat_natCast]
      have hL32 := HLK.out q hqn
      have HAT := HTO.out q hqn
      have hkl := HLN.out q
      have hge := place_ge ks (q : Int)
      have hst : z = (q : Int) → stN z ks q = -1 ∧ stN z ks (q + 1) = placeI ks (q : Int) := fun e => by
        unfold stN; subst e
        rw [if_neg (by omega), if_pos (by omega)]; exact ⟨rfl, rfl⟩
      have hst2 : z ≠ (q : Int) → stN z ks (q + 1) = stN z ks q := fun e => by
        unfold stN
        by_cases h9 : z < (q : Int)
        · rw [if_pos h9, if_pos (by omega)]
        · rw [if_neg h9, if_neg (by omega)]
      subst hva
      clear gA
      generalize (el l q).1 = f at *
      generalize (el l q).2 = ar at *
      have hq0 : (0 : Int) ≤ (q : Int) := by omega
      have hq1 : (q : Int) < (n : Int) := by omega
      have hbw : bn < wr.heap.size := by omega
      by_cases hp0 : 0 ≤ placeI ks (q : Int)
      · have HKE1 : Hid (keptL aa bs (q + 1) = keptL aa bs q ++ [(q : Int)]) := hkp hp0
        have hpb : (placeI ks (q : Int) == -1) = false := by have h9 : placeI ks (q : Int) ≠ -1 := by omega
                                                             simpa using h9
        obtain ⟨wo, hwo⟩ : ∃ wo, wo = wr := ⟨wr, rfl⟩
        subst hwo
        obtain ⟨av, cv, hvt⟩ := hos.out.sts.sl
        have hlm : ((keptL aa bs q).map (trimS l ks)).length ≤ 60 := by rw [List.length_map]; omega
        have HMAP : Hid ((keptL aa bs (q + 1)).map (trimS l ks) = (keptL aa bs q).map (trimS l ks) ++ [(f, trimA ks ar)]) := by show _ = _; rw [HKE1.out, List.map_append, List.map_cons, List.map_nil, HTE.out]
        subst hvt
        generalize (keptL aa bs q).map (trimS l ks) = P at *
        have HOS1 : Hid (OwnSts (wo.alloc (.cells #[.int .i64 f, .slice a2 ar.length cap2] 56)) (w.heap.size + 3) (.slice av P.length cv) P) := hos.out.kept (grownBelow ((Below.refl _ _).alloc (Nat.le_refl _) _))
        have HOLT : Hid (∀ k, Value.ownBlock (.slice av P.length cv) = some k → k < wo.heap.size) := fun k hk => (hos.out.lt k hk).2
        have L1 : Hid (Blk (wo.alloc (.cells #[.int .i64 f, .slice a2 ar.length cap2] 56)) (w.heap.size + 1 + 1) #[.int .i64 (stN z ks q), .slice av P.length cv] 27) := hbl.out.alloc _
        have X1 : Hid (Blk (wo.alloc (.cells #[.int .i64 f, .slice a2 ar.length cap2] 56)) w.heap.size #[.int .i64 z, .slice (some ⟨b, off, none⟩) n cap] 27) := hbx.out.alloc _
        have R1 : Hid (Blk (wo.alloc (.cells #[.int .i64 f, .slice a2 ar.length cap2] 56)) (w.heap.size + 1) #[.int .i64 0, .slice none 0 0] 27) := hbr.out.alloc _
        have Y1 : Hid (Below w.heap.size w (wo.alloc (.cells #[.int .i64 f, .slice a2 ar.length cap2] 56))) := hb.out.alloc hb.out.size _
        have S1 : Hid (Blk (wo.alloc (.cells #[.int .i64 f, .slice a2 ar.length cap2] 56)) wo.heap.size #[.int .i64 f, .slice a2 ar.length cap2] 56) := Blk.made _ _ _
        have z1 : (wo.alloc (.cells #[.int .i64 f, .slice a2 ar.length cap2] 56)).heap.size = wo.heap.size + 1 := World.size_alloc _ _
        clear hos hbl hbx hbr hb hkp hkn hp0 hge
        go_wp2
        generalize wo.alloc (.cells #[.int .i64 f, .slice a2 ar.length cap2] 56) = W1 at *
        have HS : HeldO (w.heap.size + 1 + 1) wo.heap.size (.slice av P.length cv) (.slice a2 ar.length cap2) f W1.drew := ⟨L1.out.cell 1 rfl, S1.out.cell 0 rfl, S1.out.cell 1 rfl⟩
        refine region_anyL (HeldO (w.heap.size + 1 + 1) wo.heap.size (.slice av P.length cv) (.slice a2 ar.length cap2) f) 12 (by kernel_rfl) ?_
        refine anyL_tk (i := 0) (v := ?v0_1) aZ0 (by kernel_rfl) ?y0_1 HS ?r0_1
        case y0_1 => intro wx hx; obtain ⟨h1, h2, h3⟩ := hx; go_simp; try (with_reducible rfl)
        simp only [Act.put, List.setIfInBounds_toArray, List.set_cons_zero, List.set_cons_succ]
        refine anyL_tk (i := 1) (v := ?v1_2) aZ1 (by kernel_rfl) ?y1_2 HS ?r1_2
        case y1_2 => intro wx hx; obtain ⟨h1, h2, h3⟩ := hx; go_simp; try (with_reducible rfl)
        simp only [Act.put, List.setIfInBounds_toArray, List.set_cons_zero, List.set_cons_succ]
        refine anyL_tk (i := 2) (v := ?v2_3) aZ2 (by kernel_rfl) ?y2_3 HS ?r2_3
        case y2_3 => intro wx hx; obtain ⟨h1, h2, h3⟩ := hx; go_simp; try (with_reducible rfl)
        simp only [Act.put, List.setIfInBounds_toArray, List.set_cons_zero, List.set_cons_succ]
        refine anyL_tk (i := 3) (v := ?v3_4) aZ3 (by kernel_rfl) ?y3_4 HS ?r3_4
        case y3_4 => intro wx hx; obtain ⟨h1, h2, h3⟩ := hx; go_simp; try (with_reducible rfl)
        simp only [Act.put, List.setIfInBounds_toArray, List.set_cons_zero, List.set_cons_succ]
        refine anyL_tk (i := 4) (v := ?v4_5) aZ4 (by kernel_rfl) ?y4_5 HS ?r4_5
        case y4_5 => intro wx hx; obtain ⟨h1, h2, h3⟩ := hx; go_simp; try (with_reducible rfl)
        simp only [Act.put, List.setIfInBounds_toArray, List.set_cons_zero, List.set_cons_succ]
        refine anyL_tk (i := 5) (v := ?v5_6) aZ5 (by kernel_rfl) ?y5_6 HS ?r5_6
        case y5_6 => intro wx hx; obtain ⟨h1, h2, h3⟩ := hx; go_simp; try (with_reducible rfl)
        simp only [Act.put, List.setIfInBounds_toArray, List.set_cons_zero, List.set_cons_succ]
        refine anyL_tk (i := 6) (v := ?v6_7) aZ6 (by kernel_rfl) ?y6_7 HS ?r6_7
        case y6_7 => intro wx hx; obtain ⟨h1, h2, h3⟩ := hx; go_simp; try (with_reducible rfl)
        simp only [Act.put, List.setIfInBounds_toArray, List.set_cons_zero, List.set_cons_succ]
        refine anyL_one (i := 7) aZ7 (by kernel_rfl) rfl (fun K hK => ?_)
        go_simp
        have YD : Below w.heap.size w W1.drew := Y1.out.drew
        refine (redirected_any _ _ ar ks ns n W1.drew (HGA.out.later YD (Nat.le_refl _)) hL32 (HNV.out.later YD (Nat.le_refl _)) hl HNS.out HAT).mono ?_
        rintro e w2 ⟨v2, rfl, ho2, hb2⟩
        have z2 : wo.heap.size + 1 ≤ w2.heap.size := by have h9 := hb2.size; have h8 : W1.drew.heap.size = W1.heap.size := rfl; omega
        have HS2 : HeldO (w.heap.size + 1 + 1) wo.heap.size (.slice av P.length cv) (.slice a2 ar.length cap2) f w2 := HS.later hb2 (by show _ < W1.heap.size; omega) (by show _ < W1.heap.size; omega)
        have hb2' : Below W1.heap.size W1 w2 := ⟨hb2.os, hb2.tape, hb2.output, hb2.size, hb2.block⟩
        have L2 : Hid (Blk w2 (w.heap.size + 1 + 1) #[.int .i64 (stN z ks q), .slice av P.length cv] 27) := L1.out.below hb2' L1.out.lt
        have X2 : Hid (Blk w2 w.heap.size #[.int .i64 z, .slice (some ⟨b, off, none⟩) n cap] 27) := X1.out.below hb2' X1.out.lt
        have R2 : Hid (Blk w2 (w.heap.size + 1) #[.int .i64 0, .slice none 0 0] 27) := R1.out.below hb2' R1.out.lt
        have Y2 : Hid (Below w.heap.size w w2) := Y1.out.trans (hb2'.mono Y1.out.size)
        have S2 : Hid (Blk w2 wo.heap.size #[.int .i64 f, .slice a2 ar.length cap2] 56) := S1.out.below hb2' S1.out.lt
        have HOS2 : Hid (OwnSts w2 (w.heap.size + 3) (.slice av P.length cv) P) := HOS1.out.kept (grownBelow hb2')
        have HO2 : Hid (w2.ownsRow (w.heap.size + 3) 58 4 v2 (trimA ks ar).length ((trimA ks ar).flatMap encA)) := ownMono ho2 (by show _ ≤ W1.heap.size; omega)
        obtain ⟨a3, c3, hv2⟩ := own_sl ho2
        subst hv2
        refine hK _ _ (.inr HS2) ?_
        try simp only [Act.put, List.setIfInBounds_toArray, List.set_cons_zero, List.set_cons_succ]
        clear ho2 hb2 hb2' HS YD L1 X1 R1 S1 Y1 HOS1
        refine anyL_one (i := 8) aZ8 (by kernel_rfl) rfl (fun K hK => ?_)
        go_simp
        refine hK _ _ (.inr HS2) ?_
        try simp only [Act.put, List.setIfInBounds_toArray, List.set_cons_zero, List.set_cons_succ]
        refine anyL_one (i := 9) aZ9 (by kernel_rfl) rfl (fun K hK => ?_)
        go_simp
        have hb3 : Below w2.heap.size w2 (w2.alloc (.cells #[.int .i64 f, .slice a3 (trimA ks ar).length c3] 56)) := (Below.refl _ _).alloc (Nat.le_refl _) _
        have HS3 : HeldO (w.heap.size + 1 + 1) wo.heap.size (.slice av P.length cv) (.slice a2 ar.length cap2) f (w2.alloc (.cells #[.int .i64 f, .slice a3 (trimA ks ar).length c3] 56)) := HS2.later hb3 (by omega) (by omega)
        refine hK _ _ (.inr HS3) ?_
        try simp only [Act.put, List.setIfInBounds_toArray, List.set_cons_zero, List.set_cons_succ]
        obtain ⟨v3, w3, r3, ho3, B3, G3⟩ := run_pushG (W := w2.alloc (.cells #[.int .i64 f, .slice a3 (trimA ks ar).length c3] 56)) (f, trimA ks ar) P (.slice a3 (trimA ks ar).length c3) (.slice av P.length cv) (w.heap.size + 3) (w1 := w2) rfl rfl rfl rfl HOS2.out HO2.out (by omega) (by omega)
        obtain ⟨a4, cp4, hv3⟩ := ho3.sts.sl
        have HOS3 : Hid (OwnSts w3 (w.heap.size + 3) v3 ((keptL aa bs (q + 1)).map (trimS l ks))) := by rw [HMAP.out]; exact ho3
        have S3 : Hid (Blk w3 wo.heap.size #[.int .i64 f, .slice a2 ar.length cap2] 56) := (S2.out.alloc _).grown G3 (fun e9 => by have h9 := HOLT.out _ e9.symm; omega)
        have L3 : Hid (Blk w3 (w.heap.size + 1 + 1) #[.int .i64 (stN z ks q), .slice av P.length cv] 27) := L2.out.below B3 (by omega)
        have X3 : Hid (Blk w3 w.heap.size #[.int .i64 z, .slice (some ⟨b, off, none⟩) n cap] 27) := X2.out.below B3 (by omega)
        have R3 : Hid (Blk w3 (w.heap.size + 1) #[.int .i64 0, .slice none 0 0] 27) := R2.out.below B3 (by omega)
        have Y3 : Hid (Below w.heap.size w w3) := Y2.out.trans (B3.mono (by omega))
        have z3 : w.heap.size + 3 ≤ w3.heap.size := by have h9 := B3.size; omega
        have HS4 : HeldO (w.heap.size + 1 + 1) wo.heap.size (.slice av P.length cv) (.slice a2 ar.length cap2) f w3 := ⟨L3.out.cell 1 rfl, S3.out.cell 0 rfl, S3.out.cell 1 rfl⟩
        subst hv3
        have HR3 : Hid _ := r3
        clear r3 ho3 B3 G3
        refine anyL_one (i := 10) aZ10 (by kernel_rfl) rfl (fun K hK => ?_)
        refine wp_append_run (.tmp 23) (.tmp 31) 25 rfl rfl rfl HR3.out ?_
        refine hK _ _ (.inr HS4) ?_
        try simp only [Act.put, List.setIfInBounds_toArray, List.set_cons_zero, List.set_cons_succ]
        clear HS2 HS3 hb3 HR3
        refine anyL_tk (i := 11) (v := ?v11_8) aZ11 (by kernel_rfl) ?y11_8 HS4 ?r11_8
        case y11_8 => intro wx hx; obtain ⟨h1, h2, h3⟩ := hx; go_simp; try (with_reducible rfl)
        simp only [Act.put, List.setIfInBounds_toArray, List.set_cons_zero, List.set_cons_succ]
        have y0 := L3.out.cell 1 (v := .slice av P.length cv) rfl
        have y1 := L3.out.fz 1
        generalize (P ++ [(f, trimA ks ar)]).length = q9 at *
        refine anyL_one (i := 12) aZ12 (by kernel_rfl) rfl (fun K hK => ?_)
        go_simp
        refine hK _ _ (.inl rfl) (anyL_done (by kernel_rfl) (NoPanic.normal ?_))
        try simp only [Act.put, List.setIfInBounds_toArray, List.set_cons_zero, List.set_cons_succ]
        clear HS4 y0 y1
        have L4 : Hid (Blk (w3.setCell ⟨w.heap.size + 1 + 1, 1, none⟩ (.slice a4 q9 cp4)) (w.heap.size + 1 + 1) #[.int .i64 (stN z ks q), .slice a4 q9 cp4] 27) := L3.out.set 1 _
        have X4 : Hid (Blk (w3.setCell ⟨w.heap.size + 1 + 1, 1, none⟩ (.slice a4 q9 cp4)) w.heap.size #[.int .i64 z, .slice (some ⟨b, off, none⟩) n cap] 27) := X3.out.setO _ _ (by show w.heap.size ≠ w.heap.size + 1 + 1; omega)
        have R4 : Hid (Blk (w3.setCell ⟨w.heap.size + 1 + 1, 1, none⟩ (.slice a4 q9 cp4)) (w.heap.size + 1) #[.int .i64 0, .slice none 0 0] 27) := R3.out.setO _ _ (by show w.heap.size + 1 ≠ w.heap.size + 1 + 1; omega)
        have Y4 : Hid (Below w.heap.size w (w3.setCell ⟨w.heap.size + 1 + 1, 1, none⟩ (.slice a4 q9 cp4))) := Y3.out.setCell (by show w.heap.size ≤ w.heap.size + 1 + 1; omega) _
        have HOS4 : Hid (OwnSts (w3.setCell ⟨w.heap.size + 1 + 1, 1, none⟩ (.slice a4 q9 cp4)) (w.heap.size + 3) (.slice a4 q9 cp4) ((keptL aa bs (q + 1)).map (trimS l ks))) := HOS3.out.setCell (by show w.heap.size + 1 + 1 < _; omega) _
        have z4 : w.heap.size + 3 ≤ (w3.setCell ⟨w.heap.size + 1 + 1, 1, none⟩ (.slice a4 q9 cp4)).heap.size := by simp [World.setCell]; exact z3
        generalize w3.setCell ⟨w.heap.size + 1 + 1, 1, none⟩ (.slice a4 q9 cp4) = w4 at *
        have c0 := X4.out.cell 0 (v := .int .i64 z) rfl
        have m1 := (Y4.out.cell (p := ⟨bn, on + q, none⟩) hbnl).trans HM0.out
        have d0 := L4.out.cell 0 (v := .int .i64 (stN z ks q)) rfl
        have d1 := L4.out.fz 0
        by_cases hzq : z = (q : Int)
        · have HST : Hid (stN z ks (q + 1) = placeI ks (q : Int)) := (hst hzq).2
          subst hzq
          clear hst hst2
          generalize placeI ks (q : Int) = pl at *
          go_wp2
          go_roundw
          case rel => exact ⟨q + 1, _, by omega, by go_num, HOS4.out.setCell (by show w.heap.size + 1 + 1 < _; omega) _, by rw [HST.out]; exact L4.out.set 0 _, X4.out.setO _ _ (by show w.heap.size ≠ w.heap.size + 1 + 1; omega), R4.out.setO _ _ (by show w.heap.size + 1 ≠ w.heap.size + 1 + 1; omega), Y4.out.setCell (by show w.heap.size ≤ w.heap.size + 1 + 1; omega) _, by simp [World.setCell]; exact z4⟩
          case measure => simp [intOf]; omega
        · have HST : Hid (stN z ks (q + 1) = stN z ks q) := hst2 hzq
          have hzb : ((q : Int) == z) = false := by simpa using (fun e : (q : Int) = z => hzq e.symm)
          clear hst hst2
          go_wp2
          go_roundw
          case rel => exact ⟨q + 1, _, by omega, by go_num, HOS4, by rw [HST.out]; exact L4, X4, R4, Y4, z4⟩
          case measure => simp [intOf]; omega
      · have HKE1 : Hid (keptL aa bs (q + 1) = keptL aa bs q) := hkn (by omega)
        have hpe : placeI ks (q : Int) = -1 := by omega
        have HST : Hid (stN z ks (q + 1) = stN z ks q) := by
          show _ = _
          by_cases e : z = (q : Int)
          · rw [(hst e).1, (hst e).2, hpe]
          · exact hst2 e
        rw [hpe] at m0
        clear hkp hkn hst hst2 hp0 hge hpe HAT
        go_wp2
        go_roundw
        case rel => exact ⟨q + 1, vt, by omega, by go_num, by rw [HKE1.out]; exact hos.out.kept (grownBelow ((Below.refl _ _).alloc (Nat.le_refl _) _)), by rw [HST.out]; exact hbl.out.alloc _, hbx.out.alloc _, hbr.out.alloc _, hb.out.alloc hb.out.size _, by simp; omega⟩
        case measure => simp [intOf]; omega
    · have hnl : ¬ (q : Int) < (n : Int) := by omega
      have hqe : q = n := by omega
      have HX : Hid (OwnSts wr (w.heap.size + 3) vt (ks.map (trimS l ks))) := by have h9 := hos.out; rw [hqe, HKE.out] at h9; exact h9
      have HST : Hid (stN z ks q = placeI ks z) := by show _ = _; unfold stN; rw [if_pos (by have h9 := HZ.out.2; omega)]
      obtain ⟨av, cv, hvt⟩ := HX.out.sts.sl
      subst hvt
      have d0 := hbl.out.cell 0 (v := .int .i64 (stN z ks q)) rfl
      have d1 := hbl.out.cell 1 (v := .slice av (ks.map (trimS l ks)).length cv) rfl
      rw [HST.out] at d0
      have f0 := hbr.out.cell 0 (v := .int .i64 0) rfl
      have f1 := hbr.out.cell 1 (v := .slice none 0 0) rfl
      have f2 := hbr.out.fz 0
      have f3 := hbr.out.fz 1
      clear hqe hos hbl hbx hbr HST
      generalize hq9 : (ks.map (trimS l ks)).length = q9 at *
      generalize hpz : placeI ks z = pz at *
      have HPZ : Hid (placeI ks z = pz) := hpz
      clear hq9 hpz
      go_wp2
      exact bodyPost_ret (v := .agg #[.int .i64 pz, .slice av q9 cv]) (by simp [results, Try.results44, go_sem, *]) rfl ⟨_, by rw [HPZ.out], (HX.out.setCell (by show w.heap.size + 1 < _; omega) _).setCell (by show w.heap.size + 1 < _; omega) _, by (have h := hb.out); go_grown⟩
set_option maxRecDepth 100000 in
set_option maxHeartbeats 3200000 in
theorem trim_own (v : Value) (m : Mc) (w : World) (h : Mach w v m) (hok : okM m) (hr : faultM m = 0) :
  Calls Try.prog 21 #[v] w fun e w' => ∃ v', e = .returned (.tuple #[v', .int .i64 0]) ∧ (∃ aa, Least (AheadC m.1 m.2) m.2.length aa ∧ ∃ bs, Least (BackC m.2) m.2.length bs ∧ ∃ vt, v' = .agg #[.int .i64 (trimM m.1 m.2 (keptL aa bs m.2.length)).1, vt] ∧ OwnSts w' w.heap.size vt (trimM m.1 m.2 (keptL aa bs m.2.length)).2) ∧ Below w.heap.size w w' := by
 obtain ⟨z, l⟩ := m
 obtain ⟨vs, rfl, hS⟩ := h
 obtain ⟨a, cap, rfl⟩ := hS.sl
 have HM : Hid (Mach w (.agg #[.int .i64 z, .slice a l.length cap]) (z, l)) := ⟨_, rfl, hS⟩
 have HK : Hid (okM (z, l)) := hok
 have HR : Hid (faultM (z, l) = 0) := hr
 have h60 := (right_size hr).1
 clear hS hok hr
 simp only
 generalize hn : l.length = n at *
 have HN : Hid (l.length = n) := hn
 clear hn
 go_enter Try.func21, Try.ntmps21
 go_wp2_with (first
  | (go_at_call 42; (with_reducible refine (ahead_ok _ (z, l) _ (HM.out.later (B := w.heap.size) (by go_grown) (Nat.le_refl _)) HK.out HR.out).mono ?_); rintro e w1 ⟨va1, rfl, ⟨aa, hBa, hLa⟩, hb⟩; obtain ⟨s1, k0, k1, hb1⟩ := boxedTwo hb (by simp); have HLa : Hid (Least (AheadC z l) n aa) := (by have h9 := hLa; simp only at h9; rw [HN.out] at h9; exact h9); have HBa : Hid (Bools w1 va1 aa) := hBa; have K0 : Hid (Blk w1 w.heap.size #[.int .i64 z, .slice a n cap] 27) := k0; have K1 : Hid (Blk w1 (w.heap.size + 1) #[.int .i64 0, .slice none 0 0] 27) := k1; have c0 := k0.cell 0 (v := .int .i64 z) rfl; have c1 := k0.cell 1 (v := .slice a n cap) rfl; have HB1 : Hid (Below w.heap.size w w1) := hb1; clear k0 k1 hb hb1 hLa hBa)
  | (go_at_call 43; (with_reducible refine (back_ok _ (z, l) _ (HM.out.later HB1.out (Nat.le_refl _)) HK.out HR.out).mono ?_); rintro e w2 ⟨vb1, rfl, ⟨bs, hBb, hLb⟩, hb⟩; have HLb : Hid (Least (BackC l) n bs) := (by have h9 := hLb; simp only at h9; rw [HN.out] at h9; exact h9); have HBb : Hid (Bools w2 vb1 bs) := hBb; have HBa2 : Hid (Bools w2 va1 aa) := HBa.out.later hb (Nat.le_refl _); have L0 : Hid (Blk w2 w.heap.size #[.int .i64 z, .slice a n cap] 27) := K0.out.below hb K0.out.lt; have L1 : Hid (Blk w2 (w.heap.size + 1) #[.int .i64 0, .slice none 0 0] 27) := K1.out.below hb K1.out.lt; have HB2 : Hid (Below w.heap.size w w2) := HB1.out.trans (hb.mono HB1.out.size); have hs2 : w.heap.size + 2 ≤ w2.heap.size := Nat.le_trans s1 hb.size; clear hb hBb hLb))
 clear HBa HB1 K0 K1 c0 c1
 have HS : HeldB w.heap.size z (.slice a n cap) w2.drew := L0.out.drew
 refine region_anyL (HeldB w.heap.size z (.slice a n cap)) 1000 (by kernel_rfl) ?_
 refine anyL_tk (i := 0) (v := ?v0_1) aZ0 (by kernel_rfl) ?y0_1 HS ?r0_1
 case y0_1 => intro wx hx; obtain ⟨x0, x1⟩ := hx.two; go_simp; try (with_reducible rfl)
 simp only [Act.put, List.setIfInBounds_toArray, List.set_cons_zero, List.set_cons_succ]
 refine anyL_tk (i := 1) (v := ?v1_2) aZ1 (by kernel_rfl) ?y1_2 HS ?r1_2
 case y1_2 => intro wx hx; obtain ⟨x0, x1⟩ := hx.two; go_simp; try (with_reducible rfl)
 simp only [Act.put, List.setIfInBounds_toArray, List.set_cons_zero, List.set_cons_succ]
 refine anyL_tk (i := 2) (v := ?v2_3) aZ2 (by kernel_rfl) ?y2_3 HS ?r2_3
 case y2_3 => intro wx hx; obtain ⟨x0, x1⟩ := hx.two; go_simp; try (with_reducible rfl)
 simp only [Act.put, List.setIfInBounds_toArray, List.set_cons_zero, List.set_cons_succ]
 refine anyL_one (i := 3) aZ3 (by kernel_rfl) rfl (fun K hK => ?_)
 go_simp
 refine (numbered_any va1 vb1 aa bs n w2.drew (HBa2.out.later ((Below.refl w2.heap.size w2).drew) (Nat.le_refl _)) (HBb.out.later ((Below.refl w2.heap.size w2).drew) (Nat.le_refl _)) HLa.out.1 HLb.out.1 h60).mono ?_
 rintro e w3 ⟨vn, rfl, ⟨ns, hnn, hnl, hne⟩, hb3⟩
 have hb3' : Below w2.heap.size w2 w3 := below_undrewS hb3
 have HS3 : HeldB w.heap.size z (.slice a n cap) w3 := L0.out.below hb3' L0.out.lt
 have L3 : Hid (Blk w3 (w.heap.size + 1) #[.int .i64 0, .slice none 0 0] 27) := L1.out.below hb3' L1.out.lt
 have HB3 : Hid (Below w.heap.size w w3) := HB2.out.trans (hb3'.mono HB2.out.size)
 have s3 : w.heap.size + 2 ≤ w3.heap.size := Nat.le_trans hs2 hb3'.size
 have HNN : Hid (Nums w3 vn ns ∧ ns.length = n ∧ ∀ j, j < n → el ns j = placeI (keptL aa bs n) (j : Int)) := ⟨hnn, hnl, hne⟩
 refine hK _ _ (.inr HS3) ?_
 try simp only [Act.put, List.setIfInBounds_toArray, List.set_cons_zero, List.set_cons_succ]
 clear hb3 hb3' hnn hnl hne HS L0 L1 HB2
 refine anyL_one (i := 4) aZ4 (by kernel_rfl) rfl (fun K hK => ?_)
 go_simp
 have HOC := only_any z (.slice a n cap) l vn ns aa bs w3 (HM.out.later HB3.out (Nat.le_refl _)) HK.out HR.out HNN.out.1 (by rw [HN.out]; exact HNN.out.2.1) (by rw [HN.out]; exact HNN.out.2.2)
 rw [HN.out] at HOC
 refine HOC.mono ?_
 clear HOC
 rintro e w4 ⟨vt4, rfl, hm4, hb4⟩
 have HS4 : HeldB w.heap.size z (.slice a n cap) w4 := HS3.below hb4 (by omega)
 have L4 : Hid (Blk w4 (w.heap.size + 1) #[.int .i64 0, .slice none 0 0] 27) := L3.out.below hb4 (by omega)
 have HB4 : Hid (Below w.heap.size w w4) := HB3.out.trans (hb4.mono HB3.out.size)
 have HM4 : Hid (OwnSts w4 (w3.heap.size + 3) vt4 ((keptL aa bs n).map (trimS l (keptL aa bs n)))) := hm4
 obtain ⟨a4, cap4, hvt⟩ := hm4.sts.sl
 subst hvt
 refine hK _ _ (.inr HS4) ?_
 try simp only [Act.put, List.setIfInBounds_toArray, List.set_cons_zero, List.set_cons_succ]
 clear hb4 hm4 HS3 L3 HB3
 have f0 := L4.out.cell 0 (v := .int .i64 0) rfl
 have f1 := L4.out.cell 1 (v := .slice none 0 0) rfl
 have f2 := L4.out.fz 0
 have f3 := L4.out.fz 1
 have HTM : Hid (trimM z l (keptL aa bs n) = (placeI (keptL aa bs n) z, (keptL aa bs n).map (trimS l (keptL aa bs n)))) := rfl
 generalize hml : ((keptL aa bs n).map (trimS l (keptL aa bs n))).length = q4 at *
 generalize placeI (keptL aa bs n) z = z4 at *
 have HM5 : Hid (OwnSts ((w4.setCell ⟨w.heap.size + 1, 0, none⟩ (.int .i64 z4)).setCell ⟨w.heap.size + 1, 1, none⟩ (.slice a4 q4 cap4)) (w3.heap.size + 3) (.slice a4 q4 cap4) ((keptL aa bs n).map (trimS l (keptL aa bs n)))) := (HM4.out.setCell (by show w.heap.size + 1 < _; omega) _).setCell (by show w.heap.size + 1 < _; omega) _
 have HS5 : HeldB w.heap.size z (.slice a n cap) ((w4.setCell ⟨w.heap.size + 1, 0, none⟩ (.int .i64 z4)).setCell ⟨w.heap.size + 1, 1, none⟩ (.slice a4 q4 cap4)) := (HS4.setO _ _ (by show w.heap.size ≠ w.heap.size + 1; omega)).setO _ _ (by show w.heap.size ≠ w.heap.size + 1; omega)
 have L5 : Hid (Blk ((w4.setCell ⟨w.heap.size + 1, 0, none⟩ (.int .i64 z4)).setCell ⟨w.heap.size + 1, 1, none⟩ (.slice a4 q4 cap4)) (w.heap.size + 1) #[.int .i64 z4, .slice a4 q4 cap4] 27) := (L4.out.set 0 _).set 1 _
 have HB5 : Hid (Below w.heap.size w ((w4.setCell ⟨w.heap.size + 1, 0, none⟩ (.int .i64 z4)).setCell ⟨w.heap.size + 1, 1, none⟩ (.slice a4 q4 cap4))) := (HB4.out.setCell (by show w.heap.size ≤ w.heap.size + 1; omega) _).setCell (by show w.heap.size ≤ w.heap.size + 1; omega) _
 clear hml
 refine anyL_one (i := 5) aZ5 (by kernel_rfl) rfl (fun K hK => ?_)
 go_simp
 generalize (w4.setCell ⟨w.heap.size + 1, 0, none⟩ (.int .i64 z4)).setCell ⟨w.heap.size + 1, 1, none⟩ (.slice a4 q4 cap4) = w5 at *
 refine hK _ _ (.inr HS5) ?_
 try simp only [Act.put, List.setIfInBounds_toArray, List.set_cons_zero, List.set_cons_succ]
 clear f0 f1 f2 f3 HS4 L4 HM4
 refine anyL_one (i := 6) aZ6 (by kernel_rfl) rfl (fun K hK => ?_)
 go_simp
 refine hK _ _ (.inr HS5) (anyL_done (by kernel_rfl) (NoPanic.normal ?_))
 try simp only [Act.put, List.setIfInBounds_toArray, List.set_cons_zero, List.set_cons_succ]
 have d0 := L5.out.cell 0 (v := .int .i64 z4) rfl
 have d1 := L5.out.cell 1 (v := .slice a4 q4 cap4) rfl
 clear HS5
 go_wp2
 exact bodyPost_ret (v := .tuple #[.agg #[.int .i64 z4, .slice a4 q4 cap4], .int .i64 0]) (by simp [results, Try.results21, go_sem, *]) rfl ⟨_, rfl, ⟨aa, HLa.out, bs, HLb.out, by rw [HTM.out]; exact ⟨_, rfl, HM5.out.monoB (by omega)⟩⟩, HB5.out⟩
theorem trim_run (v : Value) (m : Mc) (w : World) (h : Mach w v m) (hok : okM m) (hr : faultM m = 0) :
  Calls Try.prog 21 #[v] w fun e w' => ∃ v', e = .returned (.tuple #[v', .int .i64 0]) ∧ (∃ aa, Least (AheadC m.1 m.2) m.2.length aa ∧ ∃ bs, Least (BackC m.2) m.2.length bs ∧ Mach w' v' (trimM m.1 m.2 (keptL aa bs m.2.length))) ∧ Below w.heap.size w w' := by
 refine (trim_own v m w h hok hr).mono ?_
 rintro e w' ⟨v', he, ⟨aa, hA, bs, hB, vt, hv, hO⟩, hb⟩
 exact ⟨v', he, ⟨aa, hA, bs, hB, vt, hv, hO.sts⟩, hb⟩
set_option maxRecDepth 100000 in
theorem trim_bad (v : Value) (m : Mc) (w : World) (h : Mach w v m) (hok : okM m) (r : Int) (hr : faultM m = r) (h0 : ¬ r = 0) :
  Calls Try.prog 21 #[v] w fun e w' => e = .returned (.tuple #[.agg #[.int .i64 0, .slice none 0 0], .int .i64 r]) ∧ Below w.heap.size w w' := by
 obtain ⟨z, l⟩ := m
 obtain ⟨vs, rfl, hS⟩ := h
 obtain ⟨a, cap, rfl⟩ := hS.sl
 have HM : Hid (Mach w (.agg #[.int .i64 z, .slice a l.length cap]) (z, l)) := ⟨_, rfl, hS⟩
 have HK : Hid (okM (z, l)) := hok
 have HR : Hid (faultM (z, l) = r) := hr
 have H0 : Hid (¬ r = 0) := h0
 clear hS hok hr
 simp only
 have hne : (r != 0) = true := by simpa using h0
 generalize l.length = n at *
 go_enter Try.func21, Try.ntmps21
 go_wp2_with (first
  | (go_at_call 42; (with_reducible refine (ahead_bad _ (z, l) _ (HM.out.later (B := w.heap.size) (by go_grown) (Nat.le_refl _)) HK.out r HR.out H0.out).mono ?_); rintro e w1 ⟨rfl, hb⟩; obtain ⟨s1, k0, k1, hb1⟩ := boxedTwo hb (by simp); have HB1 : Hid (Below w.heap.size w w1) := hb1; have e0 := k1.cell 0 (v := .int .i64 0) rfl; have e1 := k1.cell 1 (v := .slice none 0 0) rfl; have f0 := k1.fz 0; have f1 := k1.fz 1; clear hb hb1 k0 k1))
 exact bodyPost_ret (v := .tuple #[.agg #[.int .i64 0, .slice none 0 0], .int .i64 r]) (by simp [results, Try.results21, go_sem, *]) rfl ⟨rfl, by (have h := HB1.out); go_grown⟩
end Go.Proofs.Ytfpibdaedfilaaa.Wt
namespace Go.Proofs.Ytfpibdaedfilaaa.Pl
theorem trimmed_facts {z : Int} {l : List St} {aa bs : List Bool} (hf : faultM (z, l) = 0) (hA : Least (AheadC z l) l.length aa) (hB : Least (BackC l) l.length bs) :
    ∃ (tz : Int) (tl : List St), trimM z l (keptL aa bs l.length) = (tz, tl) ∧ faultM (tz, tl) = 0 ∧ (∀ a, Least (AheadC tz tl) tl.length a → a = List.replicate tl.length true) ∧ (∀ b, Least (BackC tl) tl.length b → b = List.replicate tl.length true) ∧
      (∀ a b, Least (AheadC tz tl) tl.length a → Least (BackC tl) tl.length b → trimM tz tl (keptL a b tl.length) = (tz, tl)) ∧ (tz < 0 ↔ tl.length = 0) ∧ tl.length ≤ l.length := by
  have hl : ((keptL aa bs l.length).map (trimS l (keptL aa bs l.length))).length = (keptL aa bs l.length).length := List.length_map _
  have h1 := trim_all_ahead hf hA hB
  have h2 := trim_all_back hf hA hB
  have h3 := trim_fault (aa := aa) (bs := bs) hf
  have h4 := trim_start hA hB
  rw [← hl] at h1 h2 h4
  refine ⟨_, _, rfl, h3, fun a ha => ha.one h1, fun b hb => hb.one h2, fun a b ha hb => ?_, h4, by rw [hl]; exact keptL_le _ _ _⟩
  rw [ha.one h1, hb.one h2]
  exact trim_all h3
end Go.Proofs.Ytfpibdaedfilaaa.Pl
