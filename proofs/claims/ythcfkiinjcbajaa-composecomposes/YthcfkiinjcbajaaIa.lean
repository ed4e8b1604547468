/- The reference: two machines composed (Composed), for right machines that have Starts. -/
import Derived.Test.YthcfkiinjcbajaaHr
import Derived.Test.YthcfkiinjcbajaaHz
import Derived.Test.YthcfkiinjcbajaaLo
import Derived.BigQuiet
import Derived.Deep.DeepCutAuto
namespace Go.Proofs.Ythcfkiinjcbajaa.Wt
open Go.ChangeShapes Go.WideShapes Go.ChangeAt Go.RowKit
open Go.Proofs.Ythcfkiinjcbajaa.Pl
set_option linter.unusedVariables false
set_option linter.unusedSimpArgs false
theorem res_cmp (tm : Array Value) (W : World) (R : Nat) (ec : Int) (x0 x1 : Value) (hB : Blk W R #[x0, x1] 24) (h2 : tm.getD 4 undef = .pointer (some ⟨R, 0, none⟩)) (h3 : tm.getD 5 undef = .int .i64 ec) : (results Try.f15 tm).run Try.prog W = .ok (.tuple #[.agg #[x0, x1], .int .i64 ec]) W := by
  have c0 := hB.cell 0 (v := x0) rfl
  have c1 := hB.cell 1 (v := x1) rfl
  simp only [Array.getD_eq_getD_getElem?] at h2 h3
  simp [results, Try.results15, go_sem, h2, h3, c0, c1]
/-- What is read when a triple is expanded. -/
def HeldCe (T1 T2 : Nat) (za zb : Int) (va vb : Value) (b o : Nat) (t : Tr) (w : World) : Prop := w.cell? ⟨T1, 0, none⟩ = some (.int .i64 za) ∧ w.cell? ⟨T1, 1, none⟩ = some va ∧ w.cell? ⟨T2, 0, none⟩ = some (.int .i64 zb) ∧ w.cell? ⟨T2, 1, none⟩ = some vb ∧ w.cell? ⟨b, o, none⟩ = some (.int .i64 t.1) ∧ w.cell? ⟨b, o + 1, none⟩ = some (.int .i64 t.2.1) ∧ w.cell? ⟨b, o + 2, none⟩ = some (.int .i64 t.2.2)
/-- What is read when an arc is made of a hop. -/
def HeldKe (Sb : Nat) (va : Value) (b o : Nat) (x0 x1 x2 : Int) (w : World) : Prop := w.cell? ⟨Sb, 1, none⟩ = some va ∧ w.cell? ⟨b, o, none⟩ = some (.int .i64 x0) ∧ w.cell? ⟨b, o + 1, none⟩ = some (.int .i64 x1) ∧ w.cell? ⟨b, o + 2, none⟩ = some (.int .i64 x2)
set_option maxRecDepth 100000 in
set_option maxHeartbeats 6400000 in
theorem composed_ok (za zb : Int) (aa ab : Option Addr) (capa capb : Nat) (la lb : List St) (w : World) (ha : Mach w (.agg #[.int .i64 za, .slice aa la.length capa]) (za, la)) (hoka : okM (za, la)) (hb : Mach w (.agg #[.int .i64 zb, .slice ab lb.length capb]) (zb, lb)) (hokb : okM (zb, lb)) (fa : faultM (za, la) = 0) (fb : faultM (zb, lb) = 0) (h1 : 0 ≤ za) (h2 : 0 ≤ zb) :
    Calls Try.prog 15 #[.agg #[.int .i64 za, .slice aa la.length capa], .agg #[.int .i64 zb, .slice ab lb.length capb]] w fun e w' => RatRes (cpsA (za, la) (zb, lb)).1 (cpsA (za, la) (zb, lb)).2 w e w' := by
  have HMA := hidP ha
  have HMB := hidP hb
  have HKA := hidP hoka
  have HKB := hidP hokb
  have HFA := hidP fa
  have HFB := hidP fb
  have HI0 := hidP (CpsI.init (a := (za, la)) (b := (zb, lb)) fa fb h1 h2)
  have z1 : ¬ za < 0 := by omega
  have z2 : ¬ zb < 0 := by omega
  have z1d : decide (za < 0) = false := decide_eq_false z1
  have z2d : decide (zb < 0) = false := decide_eq_false z2
  clear ha hb hoka hokb fa fb
  generalize hn1 : la.length = na at *
  generalize hn2 : lb.length = nb at *
  clear hn1 hn2
  obtain ⟨X, hX⟩ : ∃ X, cpsA (za, la) (zb, lb) = X := ⟨_, rfl⟩
  rw [hX]
  have HX := hidP hX
  clear hX
  go_enter Try.func15, Try.ntmps15
  go_wp2_with (first
    | (go_at_call 30; (with_reducible refine (fault_any _ (za, la) _ (HMA.out.later (B := w.heap.size) (by go_grown) (Nat.le_refl _)) HKA.out 0 HFA.out).mono ?_); rintro e w1 ⟨rfl, hb⟩; obtain ⟨s1, b1, b2, b3, hb1⟩ := boxedThree hb (by simp); have HB1 : Hid (Below w.heap.size w w1) := hb1; have KA := hidP b1; have KB := hidP b2; have KR := hidP b3; have p0 := b2.cell 0 (v := .int .i64 zb) rfl; have p1 := b2.cell 1 (v := .slice ab nb capb) rfl; clear b1 b2 b3 hb1 hb)
    | (go_at_call 30; (with_reducible refine (fault_any _ (zb, lb) _ (HMB.out.later HB1.out (Nat.le_refl _)) HKB.out 0 HFB.out).mono ?_); rintro e w2 ⟨rfl, hb⟩; have s2 := Nat.le_trans s1 hb.size; have HB2 := hidP (HB1.out.trans (hb.mono HB1.out.size)); have KA2 := hidP (KA.out.below hb KA.out.lt); have KB2 := hidP (KB.out.below hb KB.out.lt); have KR2 := hidP (KR.out.below hb KR.out.lt); have t0 := KA2.out.cell 0 (v := .int .i64 za) rfl; have t1 := KB2.out.cell 0 (v := .int .i64 zb) rfl; clear hb))
  have HT0 : Hid (CmpAt w ((w2.alloc (.cells #[.int .i64 za, .int .i64 zb, .int .i64 0] 26)).alloc (.cells #[.int .i64 0, .slice none 0 0] 24)) #[.int .i64 za, .slice aa na capa] #[.int .i64 zb, .slice ab nb capb] (w2.heap.size + 1) (.slice none 0 0) [] (.slice (some ⟨w2.heap.size, 0, none⟩) 1 1) [(za, zb, 0)]) := by
    have k1 := Blk.made (w2.alloc (.cells #[.int .i64 za, .int .i64 zb, .int .i64 0] 26)) #[.int .i64 0, .slice none 0 0] 24
    rw [World.size_alloc] at k1
    exact ⟨(KA2.out.alloc _).alloc _, (KB2.out.alloc _).alloc _, (KR2.out.alloc _).alloc _, k1, OwnSts.nil _ _, (OwnT.one w2 (za, zb, 0) s2).later ((Below.refl _ _).alloc (Nat.le_refl _) _), (HB2.out.alloc HB2.out.size _).alloc (by simp; omega) _, by omega⟩
  generalize hM : w2.heap.size + 1 = M at *
  clear hM KA KB KR KA2 KB2 KR2 t0 t1 p0 p1 HB1 HB2
  go_loopw [7, 9, 10] (fun s7 s9 s10 wr => ∃ (q n : Nat) (vl vm : Value) (L : List Tr) (S : List St), vl = s7 ∧ s9 = .int .i64 (n : Int) ∧ s10 = .int .i64 (q : Int) ∧ Hid (CpsI (za, la) (zb, lb) q L S n) ∧ Hid (CmpAt w wr #[.int .i64 za, .slice aa na capa] #[.int .i64 zb, .slice ab nb capb] M vm S vl L)) (fun _ _ s10 _ => 61 - (intOf s10).toNat)
  case atStart => exact ⟨0, 0, _, _, _, [], rfl, rfl, rfl, HI0, HT0⟩
  case round =>
    clear HI0 HT0
    obtain ⟨q, n, vl, vm, L, S, rfl, rfl, rfl, hI, hT⟩ := hrel
    obtain ⟨w4, hw4⟩ : ∃ w4, w4 = wr := ⟨_, rfl⟩
    subst hw4
    have hq60 := hI.out.l60
    have hqle := hI.out.le
    have hn4 := hI.out.n4
    obtain ⟨al, capl, hvl, hcl⟩ := hT.out.trs.get
    have HCL := hidP hcl
    have HVL := hidP hvl
    subst hvl
    clear hcl
    by_cases hlt : q < L.length
    · obtain ⟨bL, oL, haL, hbLl, c0, c1, c2⟩ := HCL.out q hlt
      subst haL
      have q0 : (0 : Int) ≤ (q : Int) := Int.natCast_nonneg _
      have q1 : (q : Int) < ((L.length : Nat) : Int) := by omega
      have HERR := hidP (hI.out.err hlt)
      have HFUL := hidP (fun he i => hI.out.full (i := i) hlt he)
      have HNXT := hidP (hI.out.next hlt)
      have HND := hidP (fun i => cpL_nodup (hs := expT (za, la) (zb, lb) (el L q)) hI.out.nodup i)
      obtain ⟨t, ht⟩ : ∃ t, el L q = t := ⟨_, rfl⟩
      rw [ht] at c0 c1 c2 HERR HFUL HNXT HND
      clear ht
      have T4 := hidP hT.out.drew
      have HC0 : HeldCe w.heap.size (w.heap.size + 1) za zb (.slice aa na capa) (.slice ab nb capb) bL (oL + q * 3) t w4.drew := ⟨T4.out.bxA.cell 0 rfl, T4.out.bxA.cell 1 rfl, T4.out.bxB.cell 0 rfl, T4.out.bxB.cell 1 rfl, c0, c1, c2⟩
      have HCE : Hid (Calls Try.prog 11 #[.agg #[.int .i64 za, .slice aa na capa], .agg #[.int .i64 zb, .slice ab nb capb], .agg #[.int .i64 t.1, .int .i64 t.2.1, .int .i64 t.2.2]] w4.drew fun e w' => ExpOwn (expF (za, la) (zb, lb) t) (expR (za, la) (zb, lb) t) (expE (za, la) (zb, lb) t) w4.drew e w') := expandedR_own _ _ (za, la) (zb, lb) t _ (HMA.out.later T4.out.below (Nat.le_refl _)) HKA.out (HMB.out.later T4.out.below (Nat.le_refl _)) HKB.out
      go_wp2
      refine region_anyL (HeldCe w.heap.size (w.heap.size + 1) za zb (.slice aa na capa) (.slice ab nb capb) bL (oL + q * 3) t) 1000 (by kernel_rfl) ?_
      refine anyL_take (i := 0) (v := ?v0_1) at0 (by kernel_rfl) (by kernel_rfl) (by kernel_rfl) (by kernel_rfl) (fun _ _ _ h => h) rfl ?y0_1 HC0 ?r0_1
      case y0_1 => intro wx hx; obtain ⟨h1, h2, h3, h4, h5, h6, h7⟩ := hx; go_simp; try (with_reducible rfl)
      simp only [Act.put, List.setIfInBounds_toArray, List.set_cons_zero, List.set_cons_succ]
      refine anyL_take (i := 1) (v := ?v1_2) (atS at0) (by kernel_rfl) (by kernel_rfl) (by kernel_rfl) (by kernel_rfl) (fun _ _ _ h => h) rfl ?y1_2 HC0 ?r1_2
      case y1_2 => intro wx hx; obtain ⟨h1, h2, h3, h4, h5, h6, h7⟩ := hx; go_simp; try (with_reducible rfl)
      simp only [Act.put, List.setIfInBounds_toArray, List.set_cons_zero, List.set_cons_succ]
      refine anyL_take (i := 2) (v := ?v2_3) (atS (atS at0)) (by kernel_rfl) (by kernel_rfl) (by kernel_rfl) (by kernel_rfl) (fun _ _ _ h => h) rfl ?y2_3 HC0 ?r2_3
      case y2_3 => intro wx hx; obtain ⟨h1, h2, h3, h4, h5, h6, h7⟩ := hx; go_simp; try (with_reducible rfl)
      simp only [Act.put, List.setIfInBounds_toArray, List.set_cons_zero, List.set_cons_succ]
      refine anyL_take (i := 3) (v := ?v3_4) (atS (atS (atS at0))) (by kernel_rfl) (by kernel_rfl) (by kernel_rfl) (by kernel_rfl) (fun _ _ _ h => h) rfl ?y3_4 HC0 ?r3_4
      case y3_4 => intro wx hx; obtain ⟨h1, h2, h3, h4, h5, h6, h7⟩ := hx; go_simp; try (with_reducible rfl)
      simp only [Act.put, List.setIfInBounds_toArray, List.set_cons_zero, List.set_cons_succ]
      refine anyL_take (i := 4) (v := ?v4_5) (atS (atS (atS (atS at0)))) (by kernel_rfl) (by kernel_rfl) (by kernel_rfl) (by kernel_rfl) (fun _ _ _ h => h) rfl ?y4_5 HC0 ?r4_5
      case y4_5 => intro wx hx; obtain ⟨h1, h2, h3, h4, h5, h6, h7⟩ := hx; go_simp; try (with_reducible rfl)
      simp only [Act.put, List.setIfInBounds_toArray, List.set_cons_zero, List.set_cons_succ]
      refine anyL_take (i := 5) (v := ?v5_6) (atS (atS (atS (atS (atS at0))))) (by kernel_rfl) (by kernel_rfl) (by kernel_rfl) (by kernel_rfl) (fun _ _ _ h => h) rfl ?y5_6 HC0 ?r5_6
      case y5_6 => intro wx hx; obtain ⟨h1, h2, h3, h4, h5, h6, h7⟩ := hx; go_simp; try (with_reducible rfl)
      simp only [Act.put, List.setIfInBounds_toArray, List.set_cons_zero, List.set_cons_succ]
      refine anyL_one (i := 6) (atS (atS (atS (atS (atS (atS at0)))))) (by kernel_rfl) rfl (fun K hK => ?_)
      go_simp
      refine HCE.out.mono ?_
      rintro e w6 ⟨vh, rfl, ho6, hb6⟩
      have T6 := hidP (T4.out.later hb6)
      have OH6 := hidP ho6
      have HC6 : HeldCe w.heap.size (w.heap.size + 1) za zb (.slice aa na capa) (.slice ab nb capb) bL (oL + q * 3) t w6 := ⟨T6.out.bxA.cell 0 rfl, T6.out.bxA.cell 1 rfl, T6.out.bxB.cell 0 rfl, T6.out.bxB.cell 1 rfl, (hb6.cell (p := ⟨bL, oL + q * 3, none⟩) hbLl).trans c0, (hb6.cell (p := ⟨bL, oL + q * 3 + 1, none⟩) hbLl).trans c1, (hb6.cell (p := ⟨bL, oL + q * 3 + 2, none⟩) hbLl).trans c2⟩
      refine hK _ _ (.inr HC6) ?_
      try simp only [Act.put, List.setIfInBounds_toArray, List.set_cons_zero, List.set_cons_succ]
      refine anyL_take (i := 7) (v := ?v7_7) (atS (atS (atS (atS (atS (atS (atS at0))))))) (by kernel_rfl) (by kernel_rfl) (by kernel_rfl) (by kernel_rfl) (fun _ _ _ h => h) rfl ?y7_7 HC6 ?r7_7
      case y7_7 => intro wx hx; obtain ⟨h1, h2, h3, h4, h5, h6, h7⟩ := hx; go_simp; try (with_reducible rfl)
      simp only [Act.put, List.setIfInBounds_toArray, List.set_cons_zero, List.set_cons_succ]
      refine anyL_take (i := 8) (v := ?v8_8) (atS (atS (atS (atS (atS (atS (atS (atS at0)))))))) (by kernel_rfl) (by kernel_rfl) (by kernel_rfl) (by kernel_rfl) (fun _ _ _ h => h) rfl ?y8_8 HC6 ?r8_8
      case y8_8 => intro wx hx; obtain ⟨h1, h2, h3, h4, h5, h6, h7⟩ := hx; go_simp; try (with_reducible rfl)
      simp only [Act.put, List.setIfInBounds_toArray, List.set_cons_zero, List.set_cons_succ]
      refine anyL_take (i := 9) (v := ?v9_9) (atS (atS (atS (atS (atS (atS (atS (atS (atS at0))))))))) (by kernel_rfl) (by kernel_rfl) (by kernel_rfl) (by kernel_rfl) (fun _ _ _ h => h) rfl ?y9_9 HC6 ?r9_9
      case y9_9 => intro wx hx; obtain ⟨h1, h2, h3, h4, h5, h6, h7⟩ := hx; go_simp; try (with_reducible rfl)
      simp only [Act.put, List.setIfInBounds_toArray, List.set_cons_zero, List.set_cons_succ]
      refine anyL_take (i := 10) (v := ?v10_10) (atS (atS (atS (atS (atS (atS (atS (atS (atS (atS at0)))))))))) (by kernel_rfl) (by kernel_rfl) (by kernel_rfl) (by kernel_rfl) (fun _ _ _ h => h) rfl ?y10_10 HC6 ?r10_10
      case y10_10 => intro wx hx; obtain ⟨h1, h2, h3, h4, h5, h6, h7⟩ := hx; go_simp; try (with_reducible rfl)
      simp only [Act.put, List.setIfInBounds_toArray, List.set_cons_zero, List.set_cons_succ]
      refine anyL_one (i := 11) (atS (atS (atS (atS (atS (atS (atS (atS (atS (atS (atS at0))))))))))) (by kernel_rfl) rfl (fun K hK => ?_)
      go_simp
      refine hK _ _ (.inr HC6) ?_
      try simp only [Act.put, List.setIfInBounds_toArray, List.set_cons_zero, List.set_cons_succ]
      refine anyL_one (i := 12) (atS (atS (atS (atS (atS (atS (atS (atS (atS (atS (atS (atS at0)))))))))))) (by kernel_rfl) rfl (fun K hK => ?_)
      go_simp
      refine hK _ _ (.inr HC6) ?_
      try simp only [Act.put, List.setIfInBounds_toArray, List.set_cons_zero, List.set_cons_succ]
      refine anyL_one (i := 13) (atS (atS (atS (atS (atS (atS (atS (atS (atS (atS (atS (atS (atS at0))))))))))))) (by kernel_rfl) rfl (fun K hK => ?_)
      go_simp
      refine hK _ _ (.inr HC6) (anyL_done (by kernel_rfl) (NoPanic.normal ?_))
      try simp only [Act.put, List.setIfInBounds_toArray, List.set_cons_zero, List.set_cons_succ]
      clear HC0 HC6 HCE hb6 ho6 c0 c1 c2 T4 hT
      obtain ⟨ec, hec⟩ : ∃ ec, expE (za, la) (zb, lb) t = ec := ⟨_, rfl⟩
      have HEC := hidP hec
      by_cases he : ec = 0
      · have hF : expF (za, la) (zb, lb) t = finTr (za, la) (zb, lb) t := by unfold expF; rw [if_pos (by rw [hec]; exact he)]
        have hR : expR (za, la) (zb, lb) t = expT (za, la) (zb, lb) t := by unfold expR; rw [if_pos (by rw [hec]; exact he)]
        have HFUL := hidP (HFUL.out (by rw [hec]; exact he))
        have HNXT := hidP (HNXT.out (by rw [hec]; exact he))
        subst he
        rw [hec, hF]
        rw [hR] at OH6
        clear hec hF hR HERR HEC
        have hhl := expT_len HFA.out HFB.out t
        generalize expT (za, la) (zb, lb) t = hs at *
        generalize finTr (za, la) (zb, lb) t = fin at *
        have s6 : w.heap.size + 3 ≤ w6.heap.size := by have := T6.out.bxM.lt; have := T6.out.sM; omega
        have E6 := hidP (T6.out.enter fin)
        go_wp2
        generalize hSb : w6.heap.size = Sb at *
        have HSb := hidP hSb
        clear hSb
        obtain ⟨r0, hr0⟩ : ∃ r0, (Value.slice (some ⟨bL, oL, none⟩) L.length capl).ownBlock = r0 := ⟨_, rfl⟩
        have HR0 := hidP hr0
        rw [hr0] at E6
        clear hr0
        obtain ⟨ah, ch, hvh⟩ := OH6.out.sl
        subst hvh
        go_loopw [7, 9, 15] (fun s7 s9 s15 wr => ∃ (i : Nat) (vl va : Value), vl = s7 ∧ s9 = .int .i64 ((n + i : Nat) : Int) ∧ s15 = .int .i64 (i : Int) ∧ i ≤ hs.length ∧ n + i ≤ 400 ∧ Hid ((cpL hs L i).length ≤ 60) ∧ Hid (CmpIn w6 wr r0 (w.heap.size + 3) Sb fin va (cpA hs L i) vl (cpL hs L i))) (fun _ _ s15 _ => hs.length - (intOf s15).toNat)
        case atStart => exact ⟨0, _, _, rfl, by simp, rfl, Nat.zero_le _, by omega, by rw [cpL_zero]; exact hidP hq60, by rw [cpL_zero, cpA_zero]; exact E6⟩
        case round =>
          clear E6
          obtain ⟨i, vl, va, rfl, rfl, rfl, hi, hni, hL6, hE⟩ := hrel
          obtain ⟨w7, hw7⟩ : ∃ w7, w7 = wr := ⟨_, rfl⟩
          subst hw7
          by_cases hil : i < hs.length
          · have HH7 := hidP (OH6.out.keptT T6.out.trs (by rw [HR0.out]; exact hE.out.grow))
            obtain ⟨bh, oh, hah, hbhl, d0, d1, d2, d3, d4, d5⟩ := HH7.out.cell hil
            have HLS := hidP (cpL_succ (L := L) hil)
            have HAS := hidP (cpA_succ (L := L) hil)
            have HAL := hidP (cpA_len (hs := hs) (L := L) hi)
            have HFI := hidP (fun h9 => HFUL.out i hil h9)
            have HND7 := hidP (HND.out i)
            subst hah
            generalize cpL hs L i = Li at *
            generalize cpA hs L i = Ai at *
            obtain ⟨hop, hoph⟩ : ∃ h, el hs i = h := ⟨_, rfl⟩
            rw [hoph] at d0 d1 d2 d3 d4 d5 HLS HAS
            obtain ⟨x0, x1, x2, y0, y1, y2⟩ := hop
            simp only at d0 d1 d2 d3 d4 d5 HLS HAS
            obtain ⟨a7, c7, hv7⟩ := hE.out.trs.sl
            subst hv7
            have i0 : (0 : Int) ≤ (i : Int) := Int.natCast_nonneg _
            have i1 : (i : Int) < ((hs.length : Nat) : Int) := by omega
            have hl60 := hL6.out
            go_wp2
            go_loopw [16, 17] (fun s16 s17 wr => ∃ (k qd : Nat), s16 = .int .i64 (fndI Li (y0, y1, y2) k) ∧ s17 = .int .i64 (k : Int) ∧ k ≤ Li.length ∧ wr = w7.drewN qd) (fun _ s17 _ => Li.length - (intOf s17).toNat)
            case atStart => exact ⟨0, 0, by rw [fndI_zero], rfl, Nat.zero_le _, (World.drewN_zero w7).symm⟩
            case round =>
              obtain ⟨k, qd, rfl, rfl, hk, rfl⟩ := hrel
              by_cases hkl : k < Li.length
              · obtain ⟨bT, oT, haT, _, u0, u1, u2⟩ := hE.out.trs.cell hkl
                subst haT
                have HYE := hidP (fndI_yes (L := Li) (t := (y0, y1, y2)) HND7.out hkl)
                have HNO := hidP (fndI_no (L := Li) (t := (y0, y1, y2)) hkl)
                obtain ⟨tr, htr⟩ : ∃ h, el Li k = h := ⟨_, rfl⟩
                rw [htr] at u0 u1 u2 HYE HNO
                clear htr
                obtain ⟨v0, v1, v2⟩ := tr
                simp only at u0 u1 u2
                have u0' : (w7.drewN qd).cell? ⟨bT, oT + k * 3, none⟩ = some (.int .i64 v0) := u0
                have u1' : (w7.drewN qd).cell? ⟨bT, oT + k * 3 + 1, none⟩ = some (.int .i64 v1) := u1
                have u2' : (w7.drewN qd).cell? ⟨bT, oT + k * 3 + 2, none⟩ = some (.int .i64 v2) := u2
                have d3' : (w7.drewN qd).cell? ⟨bh, oh + i * 6 + 3, none⟩ = some (.int .i64 y0) := d3
                have d4' : (w7.drewN qd).cell? ⟨bh, oh + i * 6 + 3 + 1, none⟩ = some (.int .i64 y1) := d4
                have d5' : (w7.drewN qd).cell? ⟨bh, oh + i * 6 + 3 + 2, none⟩ = some (.int .i64 y2) := d5
                have k0 : (0 : Int) ≤ (k : Int) := Int.natCast_nonneg _
                have k1 : (k : Int) < ((Li.length : Nat) : Int) := by omega
                by_cases hek : (v0, v1, v2) = (y0, y1, y2)
                · have HF1 := hidP (HYE.out hek)
                  simp only [Prod.mk.injEq] at hek
                  obtain ⟨rfl, rfl, rfl⟩ := hek
                  clear HYE HNO
                  go_wp2
                  go_quiet (fail)
                  go_wp2
                  go_roundw
                  case rel => exact ⟨k + 1, qd + nq, by rw [HF1.out], by go_num, by omega, by first | rfl | rw [World.drewN_drewN]⟩
                  case measure => simp [intOf]; omega
                · have HF1 := hidP (HNO.out hek)
                  clear HYE HNO
                  have hc3 : (v0 == y0) = false ∨ (v0 = y0 ∧ (v1 == y1) = false) ∨ (v0 = y0 ∧ v1 = y1 ∧ (v2 == y2) = false) := by
                    simp only [Prod.mk.injEq] at hek
                    simp only [beq_eq_false_iff_ne, ne_eq]
                    omega
                  rcases hc3 with n0 | ⟨rfl, n0⟩ | ⟨rfl, rfl, n0⟩
                  all_goals
                    go_wp2
                    go_quiet (fail)
                    go_wp2
                    go_roundw
                    case rel => exact ⟨k + 1, qd + nq, by rw [HF1.out], by go_num, by omega, by first | rfl | rw [World.drewN_drewN]⟩
                    case measure => simp [intOf]; omega
              · have hnk : ¬ (k : Int) < ((Li.length : Nat) : Int) := by omega
                obtain rfl : k = Li.length := by omega
                have HFA9 := hidP (fndI_all Li (y0, y1, y2))
                have E8 := hidP (hE.out.drewN qd)
                obtain ⟨w8, hw8⟩ : ∃ w8, w7.drewN qd = w8 := ⟨_, rfl⟩
                rw [hw8] at E8
                rw [hw8]
                clear hw8
                obtain ⟨jx, hjx⟩ : ∃ jx : Nat, Li.idxOf (y0, y1, y2) = jx := ⟨_, rfl⟩
                have HAX : Hid (arcTr Li (x0, x1, x2, y0, y1, y2) = (x0, x1, x2, (jx : Int))) := by show _ = _; rw [← hjx]; rfl
                rw [HAX.out] at HAS
                have HJX := hidP hjx
                clear hjx
                obtain ⟨L2, hL2⟩ : ∃ L2, addQ Li (y0, y1, y2) = L2 := ⟨_, rfl⟩
                have HL2 := hidP hL2
                rw [hL2] at HLS
                clear hL2
                obtain ⟨b8, o8, ha8, _, _, _, _, e3, e4, e5⟩ := (OH6.out.keptT T6.out.trs (by rw [HR0.out]; exact E8.out.grow)).cell hil
                obtain ⟨rfl, rfl⟩ : bh = b8 ∧ oh = o8 := by simpa using ha8
                rw [hoph] at e3 e4 e5
                simp only at e3 e4 e5
                have e3' : w8.cell? ⟨bh, oh + i * 6 + 3, none⟩ = some (.int .i64 y0) := e3
                have e4' : w8.cell? ⟨bh, oh + i * 6 + 3 + 1, none⟩ = some (.int .i64 y1) := e4
                have e5' : w8.cell? ⟨bh, oh + i * 6 + 3 + 2, none⟩ = some (.int .i64 y2) := e5
                clear e3 e4 e5 d0 d1 d2 d3 d4 d5
                go_upto_if 91 with fail
                go_cut [7, 16] (fun s7 s16 wx => ∃ (a9 : Option Addr) (c9 : Nat), s7 = .slice a9 L2.length c9 ∧ s16 = .int .i64 (jx : Int) ∧ Hid (CmpIn w6 wx r0 (w.heap.size + 3) Sb fin va Ai (.slice a9 L2.length c9) L2))
                case first =>
                  by_cases hmem : (y0, y1, y2) ∈ Li
                  · have HLX : Hid (Li = L2) := by show _ = _; rw [← HL2.out, addQ_old hmem]
                    rw [HFA9.out, if_pos hmem, HJX.out]
                    have hj0 : ¬ (jx : Int) < 0 := by omega
                    clear hmem
                    go_wp2
                    go_meet
                    case rel => exact ⟨a7, c7, by rw [HLX.out], rfl, by rw [← HLX.out]; exact E8⟩
                  · rw [HFA9.out, if_neg hmem]
                    have HLX : Hid (Li ++ [(y0, y1, y2)] = L2) := by show _ = _; rw [← HL2.out, addQ_new hmem]
                    have HJL : Hid (Li.length = jx) := by show _ = _; rw [← HJX.out, idx_new hmem]
                    obtain ⟨v9, w9, r9, hE9⟩ := E8.out.pushT (y0, y1, y2) (by omega) (by have := HSb.out; omega)
                    simp only [encT] at r9
                    have HR9 := hidP r9
                    obtain ⟨a9, c9, hv9⟩ := hE9.trs.sl
                    rw [HLX.out] at hv9 hE9
                    subst hv9
                    have E9 := hidP hE9
                    clear r9 hE9 hmem
                    go_wp2_with (first | (at_builtin; refine wpListAppendRun rfl _ _ 71 rfl rfl rfl HR9.out ?_))
                    go_meet
                    case rel => exact ⟨a9, c9, rfl, by rw [HJL.out], E9⟩
                case rest =>
                  obtain ⟨a9, c9, rfl, rfl, E9⟩ := hcut
                  obtain ⟨w9, hw9⟩ : ∃ w9, w9 = wc := ⟨_, rfl⟩
                  subst hw9
                  clear E8 e3' e4' e5' HFA9 HL2 HJX HAX
                  by_cases hfl : 400 < n + (i + 1) ∨ 60 < L2.length
                  · have T9 := hidP (T6.out.meanwhile (by rw [HR0.out]; exact E9.out.grow) E9.out.trs)
                    have HXE : Hid (X = ((0, []), 5)) := by have h9 := HFI.out (by rw [HLS.out]; exact hfl); rw [HX.out] at h9; exact h9
                    have e0 := T9.out.bxR.cell 0 (v := .int .i64 0) rfl
                    have e1 := T9.out.bxR.cell 1 (v := .slice none 0 0) rfl
                    have g0 := T9.out.bxR.fz 0
                    have g1 := T9.out.bxR.fz 1
                    by_cases hf4 : 400 < n + (i + 1)
                    · have hflz : (400 : Int) < (n : Int) + (i : Int) + 1 := by omega
                      clear hfl hf4
                      go_wp2
                      exact bodyPost_ret (res_cmp _ _ (w.heap.size + 2) 5 _ _ ((T9.out.bxR.set 0 (.int .i64 0)).set 1 (.slice none 0 0)) rfl rfl) rfl ⟨_, by rw [HXE.out], by rw [HXE.out]; exact mach_zeroR _, (T9.out.below.setCell (p := ⟨w.heap.size + 2, 0, none⟩) (by show w.heap.size ≤ w.heap.size + 2; omega) _).setCell (p := ⟨w.heap.size + 2, 1, none⟩) (by show w.heap.size ≤ w.heap.size + 2; omega) _⟩
                    · have hflz : ¬ (400 : Int) < (n : Int) + (i : Int) + 1 := by omega
                      have hfld : decide ((400 : Int) < (n : Int) + (i : Int) + 1) = false := decide_eq_false hflz
                      have hl6z : (60 : Int) < ((L2.length : Nat) : Int) := by omega
                      clear hfl hf4
                      go_wp2
                      exact bodyPost_ret (res_cmp _ _ (w.heap.size + 2) 5 _ _ ((T9.out.bxR.set 0 (.int .i64 0)).set 1 (.slice none 0 0)) rfl rfl) rfl ⟨_, by rw [HXE.out], by rw [HXE.out]; exact mach_zeroR _, (T9.out.below.setCell (p := ⟨w.heap.size + 2, 0, none⟩) (by show w.heap.size ≤ w.heap.size + 2; omega) _).setCell (p := ⟨w.heap.size + 2, 1, none⟩) (by show w.heap.size ≤ w.heap.size + 2; omega) _⟩
                  · have hflz : ¬ (400 : Int) < (n : Int) + (i : Int) + 1 := by omega
                    have hfld : decide ((400 : Int) < (n : Int) + (i : Int) + 1) = false := decide_eq_false hflz
                    have hl6z : ¬ (60 : Int) < ((L2.length : Nat) : Int) := by omega
                    have HFL6 : Hid (L2.length ≤ 60) := by show _ ≤ _; omega
                    have hn400 : n + (i + 1) ≤ 400 := by omega
                    clear hfl
                    go_wp2
                    have HH9 := hidP (OH6.out.keptT T6.out.trs (by rw [HR0.out]; exact E9.out.drew.grow))
                    obtain ⟨v10, w10, r10, hg10, hs10, hE10⟩ := E9.out.drew.pushA (x0, x1, x2, (jx : Int)) (by rw [HAL.out]; omega)
                    have HH10 := hidP (OH6.out.keptT T6.out.trs (by rw [HR0.out]; exact hg10))
                    obtain ⟨a10, c10, hv10⟩ := hE10.arcs.sl
                    rw [show (Ai ++ [(x0, x1, x2, (jx : Int))]).length = i + 1 by rw [List.length_append, HAL.out]; rfl] at hv10
                    subst hv10
                    have HE10 := hidP hE10
                    obtain ⟨b9, o9, ha9, _, f0, f1, f2, _⟩ := HH9.out.cell hil
                    obtain ⟨rfl, rfl⟩ : bh = b9 ∧ oh = o9 := by simpa using ha9
                    obtain ⟨b8, o8, ha8, _, k0, k1, k2, _⟩ := HH10.out.cell hil
                    obtain ⟨rfl, rfl⟩ : bh = b8 ∧ oh = o8 := by simpa using ha8
                    rw [hoph] at f0 f1 f2 k0 k1 k2
                    simp only at f0 f1 f2 k0 k1 k2
                    have B9 := hidP (E9.out.drew.later ((Below.refl w9.drew.heap.size w9.drew).alloc (Nat.le_refl _) (.cells #[.int .i64 x0, .int .i64 x1, .int .i64 x2, .int .i64 (jx : Int)] 51)))
                    have b9l : (Below w9.drew.heap.size w9.drew (w9.drew.alloc (.cells #[.int .i64 x0, .int .i64 x1, .int .i64 x2, .int .i64 (jx : Int)] 51))) := (Below.refl _ _).alloc (Nat.le_refl _) _
                    have K1 : HeldKe Sb va bh (oh + i * 6) x0 x1 x2 w9.drew := ⟨E9.out.drew.sb.cell 1 rfl, f0, f1, f2⟩
                    have K2 : HeldKe Sb va bh (oh + i * 6) x0 x1 x2 (w9.drew.alloc (.cells #[.int .i64 x0, .int .i64 x1, .int .i64 x2, .int .i64 (jx : Int)] 51)) := ⟨B9.out.sb.cell 1 rfl, low f0 b9l, low f1 b9l, low f2 b9l⟩
                    have K3 : HeldKe Sb va bh (oh + i * 6) x0 x1 x2 w10 := ⟨hs10.cell 1 rfl, k0, k1, k2⟩
                    have y1 := hs10.cell 1 (v := va) rfl
                    have y2 := hs10.fz 1
                    simp only [encA] at r10
                    have HR10 := hidP r10
                    clear r10 hE10 f0 f1 f2 k0 k1 k2 b9l B9
                    refine region_anyL (HeldKe Sb va bh (oh + i * 6) x0 x1 x2) 22 (by kernel_rfl) ?_
                    refine anyL_take (i := 0) (v := ?v0_11) at0 (by kernel_rfl) (by kernel_rfl) (by kernel_rfl) (by kernel_rfl) (fun _ _ _ h => h) rfl ?y0_11 K1 ?r0_11
                    case y0_11 => intro wx hx; obtain ⟨h1, h2, h3, h4⟩ := hx; go_simp; try (with_reducible rfl)
                    simp only [Act.put, List.setIfInBounds_toArray, List.set_cons_zero, List.set_cons_succ]
                    refine anyL_take (i := 1) (v := ?v1_12) (atS at0) (by kernel_rfl) (by kernel_rfl) (by kernel_rfl) (by kernel_rfl) (fun _ _ _ h => h) rfl ?y1_12 K1 ?r1_12
                    case y1_12 => intro wx hx; obtain ⟨h1, h2, h3, h4⟩ := hx; go_simp; try (with_reducible rfl)
                    simp only [Act.put, List.setIfInBounds_toArray, List.set_cons_zero, List.set_cons_succ]
                    refine anyL_take (i := 2) (v := ?v2_13) (atS (atS at0)) (by kernel_rfl) (by kernel_rfl) (by kernel_rfl) (by kernel_rfl) (fun _ _ _ h => h) rfl ?y2_13 K1 ?r2_13
                    case y2_13 => intro wx hx; obtain ⟨h1, h2, h3, h4⟩ := hx; go_simp; try (with_reducible rfl)
                    simp only [Act.put, List.setIfInBounds_toArray, List.set_cons_zero, List.set_cons_succ]
                    refine anyL_take (i := 3) (v := ?v3_14) (atS (atS (atS at0))) (by kernel_rfl) (by kernel_rfl) (by kernel_rfl) (by kernel_rfl) (fun _ _ _ h => h) rfl ?y3_14 K1 ?r3_14
                    case y3_14 => intro wx hx; obtain ⟨h1, h2, h3, h4⟩ := hx; go_simp; try (with_reducible rfl)
                    simp only [Act.put, List.setIfInBounds_toArray, List.set_cons_zero, List.set_cons_succ]
                    refine anyL_take (i := 4) (v := ?v4_15) (atS (atS (atS (atS at0)))) (by kernel_rfl) (by kernel_rfl) (by kernel_rfl) (by kernel_rfl) (fun _ _ _ h => h) rfl ?y4_15 K1 ?r4_15
                    case y4_15 => intro wx hx; obtain ⟨h1, h2, h3, h4⟩ := hx; go_simp; try (with_reducible rfl)
                    simp only [Act.put, List.setIfInBounds_toArray, List.set_cons_zero, List.set_cons_succ]
                    refine anyL_take (i := 5) (v := ?v5_16) (atS (atS (atS (atS (atS at0))))) (by kernel_rfl) (by kernel_rfl) (by kernel_rfl) (by kernel_rfl) (fun _ _ _ h => h) rfl ?y5_16 K1 ?r5_16
                    case y5_16 => intro wx hx; obtain ⟨h1, h2, h3, h4⟩ := hx; go_simp; try (with_reducible rfl)
                    simp only [Act.put, List.setIfInBounds_toArray, List.set_cons_zero, List.set_cons_succ]
                    refine anyL_take (i := 6) (v := ?v6_17) (atS (atS (atS (atS (atS (atS at0)))))) (by kernel_rfl) (by kernel_rfl) (by kernel_rfl) (by kernel_rfl) (fun _ _ _ h => h) rfl ?y6_17 K1 ?r6_17
                    case y6_17 => intro wx hx; obtain ⟨h1, h2, h3, h4⟩ := hx; go_simp; try (with_reducible rfl)
                    simp only [Act.put, List.setIfInBounds_toArray, List.set_cons_zero, List.set_cons_succ]
                    refine anyL_take (i := 7) (v := ?v7_18) (atS (atS (atS (atS (atS (atS (atS at0))))))) (by kernel_rfl) (by kernel_rfl) (by kernel_rfl) (by kernel_rfl) (fun _ _ _ h => h) rfl ?y7_18 K1 ?r7_18
                    case y7_18 => intro wx hx; obtain ⟨h1, h2, h3, h4⟩ := hx; go_simp; try (with_reducible rfl)
                    simp only [Act.put, List.setIfInBounds_toArray, List.set_cons_zero, List.set_cons_succ]
                    refine anyL_take (i := 8) (v := ?v8_19) (atS (atS (atS (atS (atS (atS (atS (atS at0)))))))) (by kernel_rfl) (by kernel_rfl) (by kernel_rfl) (by kernel_rfl) (fun _ _ _ h => h) rfl ?y8_19 K1 ?r8_19
                    case y8_19 => intro wx hx; obtain ⟨h1, h2, h3, h4⟩ := hx; go_simp; try (with_reducible rfl)
                    simp only [Act.put, List.setIfInBounds_toArray, List.set_cons_zero, List.set_cons_succ]
                    refine anyL_take (i := 9) (v := ?v9_20) (atS (atS (atS (atS (atS (atS (atS (atS (atS at0))))))))) (by kernel_rfl) (by kernel_rfl) (by kernel_rfl) (by kernel_rfl) (fun _ _ _ h => h) rfl ?y9_20 K1 ?r9_20
                    case y9_20 => intro wx hx; obtain ⟨h1, h2, h3, h4⟩ := hx; go_simp; try (with_reducible rfl)
                    simp only [Act.put, List.setIfInBounds_toArray, List.set_cons_zero, List.set_cons_succ]
                    refine anyL_take (i := 10) (v := ?v10_21) (atS (atS (atS (atS (atS (atS (atS (atS (atS (atS at0)))))))))) (by kernel_rfl) (by kernel_rfl) (by kernel_rfl) (by kernel_rfl) (fun _ _ _ h => h) rfl ?y10_21 K1 ?r10_21
                    case y10_21 => intro wx hx; obtain ⟨h1, h2, h3, h4⟩ := hx; go_simp; try (with_reducible rfl)
                    simp only [Act.put, List.setIfInBounds_toArray, List.set_cons_zero, List.set_cons_succ]
                    refine anyL_take (i := 11) (v := ?v11_22) (atS (atS (atS (atS (atS (atS (atS (atS (atS (atS (atS at0))))))))))) (by kernel_rfl) (by kernel_rfl) (by kernel_rfl) (by kernel_rfl) (fun _ _ _ h => h) rfl ?y11_22 K1 ?r11_22
                    case y11_22 => intro wx hx; obtain ⟨h1, h2, h3, h4⟩ := hx; go_simp; try (with_reducible rfl)
                    simp only [Act.put, List.setIfInBounds_toArray, List.set_cons_zero, List.set_cons_succ]
                    refine anyL_take (i := 12) (v := ?v12_23) (atS (atS (atS (atS (atS (atS (atS (atS (atS (atS (atS (atS at0)))))))))))) (by kernel_rfl) (by kernel_rfl) (by kernel_rfl) (by kernel_rfl) (fun _ _ _ h => h) rfl ?y12_23 K1 ?r12_23
                    case y12_23 => intro wx hx; obtain ⟨h1, h2, h3, h4⟩ := hx; go_simp; try (with_reducible rfl)
                    simp only [Act.put, List.setIfInBounds_toArray, List.set_cons_zero, List.set_cons_succ]
                    refine anyL_take (i := 13) (v := ?v13_24) (atS (atS (atS (atS (atS (atS (atS (atS (atS (atS (atS (atS (atS at0))))))))))))) (by kernel_rfl) (by kernel_rfl) (by kernel_rfl) (by kernel_rfl) (fun _ _ _ h => h) rfl ?y13_24 K1 ?r13_24
                    case y13_24 => intro wx hx; obtain ⟨h1, h2, h3, h4⟩ := hx; go_simp; try (with_reducible rfl)
                    simp only [Act.put, List.setIfInBounds_toArray, List.set_cons_zero, List.set_cons_succ]
                    refine anyL_take (i := 14) (v := ?v14_25) (atS (atS (atS (atS (atS (atS (atS (atS (atS (atS (atS (atS (atS (atS at0)))))))))))))) (by kernel_rfl) (by kernel_rfl) (by kernel_rfl) (by kernel_rfl) (fun _ _ _ h => h) rfl ?y14_25 K1 ?r14_25
                    case y14_25 => intro wx hx; obtain ⟨h1, h2, h3, h4⟩ := hx; go_simp; try (with_reducible rfl)
                    simp only [Act.put, List.setIfInBounds_toArray, List.set_cons_zero, List.set_cons_succ]
                    refine anyL_take (i := 15) (v := ?v15_26) (atS (atS (atS (atS (atS (atS (atS (atS (atS (atS (atS (atS (atS (atS (atS at0))))))))))))))) (by kernel_rfl) (by kernel_rfl) (by kernel_rfl) (by kernel_rfl) (fun _ _ _ h => h) rfl ?y15_26 K1 ?r15_26
                    case y15_26 => intro wx hx; obtain ⟨h1, h2, h3, h4⟩ := hx; go_simp; try (with_reducible rfl)
                    simp only [Act.put, List.setIfInBounds_toArray, List.set_cons_zero, List.set_cons_succ]
                    refine anyL_take (i := 16) (v := ?v16_27) (atS (atS (atS (atS (atS (atS (atS (atS (atS (atS (atS (atS (atS (atS (atS (atS at0)))))))))))))))) (by kernel_rfl) (by kernel_rfl) (by kernel_rfl) (by kernel_rfl) (fun _ _ _ h => h) rfl ?y16_27 K1 ?r16_27
                    case y16_27 => intro wx hx; obtain ⟨h1, h2, h3, h4⟩ := hx; go_simp; try (with_reducible rfl)
                    simp only [Act.put, List.setIfInBounds_toArray, List.set_cons_zero, List.set_cons_succ]
                    refine anyL_take (i := 17) (v := ?v17_28) (atS (atS (atS (atS (atS (atS (atS (atS (atS (atS (atS (atS (atS (atS (atS (atS (atS at0))))))))))))))))) (by kernel_rfl) (by kernel_rfl) (by kernel_rfl) (by kernel_rfl) (fun _ _ _ h => h) rfl ?y17_28 K1 ?r17_28
                    case y17_28 => intro wx hx; obtain ⟨h1, h2, h3, h4⟩ := hx; go_simp; try (with_reducible rfl)
                    simp only [Act.put, List.setIfInBounds_toArray, List.set_cons_zero, List.set_cons_succ]
                    refine anyL_take (i := 18) (v := ?v18_29) (atS (atS (atS (atS (atS (atS (atS (atS (atS (atS (atS (atS (atS (atS (atS (atS (atS (atS at0)))))))))))))))))) (by kernel_rfl) (by kernel_rfl) (by kernel_rfl) (by kernel_rfl) (fun _ _ _ h => h) rfl ?y18_29 K1 ?r18_29
                    case y18_29 => intro wx hx; obtain ⟨h1, h2, h3, h4⟩ := hx; go_simp; try (with_reducible rfl)
                    simp only [Act.put, List.setIfInBounds_toArray, List.set_cons_zero, List.set_cons_succ]
                    refine anyL_one (i := 19) (atS (atS (atS (atS (atS (atS (atS (atS (atS (atS (atS (atS (atS (atS (atS (atS (atS (atS (atS at0))))))))))))))))))) (by kernel_rfl) rfl (fun K hK => ?_)
                    go_simp
                    refine hK _ _ (.inr K2) ?_
                    try simp only [Act.put, List.setIfInBounds_toArray, List.set_cons_zero, List.set_cons_succ]
                    refine anyL_one (i := 20) (atS (atS (atS (atS (atS (atS (atS (atS (atS (atS (atS (atS (atS (atS (atS (atS (atS (atS (atS (atS at0)))))))))))))))))))) (by kernel_rfl) rfl (fun K hK => ?_)
                    refine wp_append_run (.tmp 113) (.tmp 131) 52 rfl rfl rfl HR10.out ?_
                    refine hK _ _ (.inr K3) ?_
                    try simp only [Act.put, List.setIfInBounds_toArray, List.set_cons_zero, List.set_cons_succ]
                    refine anyL_take (i := 21) (v := ?v21_30) (atS (atS (atS (atS (atS (atS (atS (atS (atS (atS (atS (atS (atS (atS (atS (atS (atS (atS (atS (atS (atS at0))))))))))))))))))))) (by kernel_rfl) (by kernel_rfl) (by kernel_rfl) (by kernel_rfl) (fun _ _ _ h => h) rfl ?y21_30 K3 ?r21_30
                    case y21_30 => intro wx hx; obtain ⟨h1, h2, h3, h4⟩ := hx; go_simp; try (with_reducible rfl)
                    simp only [Act.put, List.setIfInBounds_toArray, List.set_cons_zero, List.set_cons_succ]
                    refine anyL_one (i := 22) (atS (atS (atS (atS (atS (atS (atS (atS (atS (atS (atS (atS (atS (atS (atS (atS (atS (atS (atS (atS (atS (atS at0)))))))))))))))))))))) (by kernel_rfl) rfl (fun K hK => ?_)
                    go_simp
                    refine hK _ _ (.inl rfl) (anyL_done (by kernel_rfl) (NoPanic.normal ?_))
                    try simp only [Act.put, List.setIfInBounds_toArray, List.set_cons_zero, List.set_cons_succ]
                    clear K1 K2 K3 y1 y2 HR10
                    go_wp2
                    go_roundw
                    case rel => exact ⟨i + 1, _, _, rfl, by go_num, by go_num, by omega, by omega, by rw [HLS.out]; exact HFL6, by rw [HAS.out, HLS.out]; exact HE10⟩
                    case measure => simp [intOf]; omega
          · have hie : i = hs.length := by omega
            have hnl : ¬ (i : Int) < ((hs.length : Nat) : Int) := by omega
            have T9 := hidP (T6.out.meanwhile (by rw [HR0.out]; exact hE.out.grow) hE.out.trs)
            have s7 : w.heap.size + 3 ≤ w7.heap.size := by have := hE.out.grow.size; have := HSb.out; omega
            obtain ⟨v11, w11, r11, hM11, hT11⟩ := T9.out.push (fin, cpA hs L i) (OwnArcs.mono hE.out.arcs (by have := HSb.out; omega)) (by have := hI.out.len; omega) s7
            simp only at r11
            have HR11 := hidP r11
            obtain ⟨a11, c11, hv11⟩ := hT11.sts.sts.sl
            rw [show (S ++ [(fin, cpA hs L i)]).length = q + 1 by rw [List.length_append, hI.out.len]; rfl] at hv11
            subst hv11
            have HT11 := hidP hT11
            have HNX : Hid (CpsI (za, la) (zb, lb) (q + 1) (cpL hs L i) (S ++ [(fin, cpA hs L i)]) (n + i)) := by rw [hie]; exact HNXT.out (by omega) (by rw [← hie]; exact hL6.out)
            have m1 := T9.out.bxM.cell 1 (v := vm) rfl
            have b0 := hE.out.sb.cell 0 (v := .int .i64 fin) rfl
            have b1 := hE.out.sb.cell 1 (v := va) rfl
            have m2 := hM11.cell 1 (v := vm) rfl
            have m3 := hM11.fz 1
            clear r11 hT11
            go_wp2_with (first | (at_builtin; refine wpListAppendRun rfl _ _ 22 rfl rfl rfl HR11.out ?_))
            go_roundw
            case rel => exact ⟨q + 1, n + i, _, _, _, _, rfl, by go_num, by go_num, HNX, HT11⟩
            case measure => simp [intOf]; omega
      · have hneb : (ec != 0) = true := by simpa using he
        have HXE : Hid (X = ((0, []), ec)) := by have h9 := HERR.out (by rw [hec]; exact he); rw [hec, HX.out] at h9; exact h9
        rw [hec]
        clear hec
        have e0 := T6.out.bxR.cell 0 (v := .int .i64 0) rfl
        have e1 := T6.out.bxR.cell 1 (v := .slice none 0 0) rfl
        have g0 := T6.out.bxR.fz 0
        have g1 := T6.out.bxR.fz 1
        go_wp2
        exact bodyPost_ret (res_cmp _ _ (w.heap.size + 2) ec _ _ ((T6.out.bxR.set 0 (.int .i64 0)).set 1 (.slice none 0 0)) rfl rfl) rfl ⟨_, by rw [HXE.out], by rw [HXE.out]; exact mach_zeroR _, (T6.out.below.setCell (p := ⟨w.heap.size + 2, 0, none⟩) (by show w.heap.size ≤ w.heap.size + 2; omega) _).setCell (p := ⟨w.heap.size + 2, 1, none⟩) (by show w.heap.size ≤ w.heap.size + 2; omega) _⟩
    · have hnl : ¬ (q : Int) < ((L.length : Nat) : Int) := by omega
      have HXE : Hid (X = ((0, S), 0)) := by have h9 := hI.out.stop hlt; rw [HX.out] at h9; exact h9
      obtain ⟨am, cm, hvm⟩ := hT.out.sts.sts.sl
      subst hvm
      have m0 := hT.out.bxM.cell 0 (v := .int .i64 0) rfl
      have m1 := hT.out.bxM.cell 1 (v := .slice am S.length cm) rfl
      have e0 := hT.out.bxR.cell 0 (v := .int .i64 0) rfl
      have e1 := hT.out.bxR.cell 1 (v := .slice none 0 0) rfl
      have g0 := hT.out.bxR.fz 0
      have g1 := hT.out.bxR.fz 1
      go_wp2
      refine bodyPost_ret (res_cmp _ _ (w.heap.size + 2) 0 _ _ ((hT.out.bxR.set 0 (.int .i64 0)).set 1 (.slice am S.length cm)) rfl rfl) rfl ⟨_, by rw [HXE.out], ?_, (hT.out.below.setCell (p := ⟨w.heap.size + 2, 0, none⟩) (by show w.heap.size ≤ w.heap.size + 2; omega) _).setCell (p := ⟨w.heap.size + 2, 1, none⟩) (by show w.heap.size ≤ w.heap.size + 2; omega) _⟩
      rw [HXE.out]
      exact ⟨_, rfl, ((hT.out.sts.setM hT.out.bxR 0 _).setM (hT.out.bxR.set 0 _) 1 _).sts⟩
end Go.Proofs.Ythcfkiinjcbajaa.Wt
