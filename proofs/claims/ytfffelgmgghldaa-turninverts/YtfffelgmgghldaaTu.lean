/- The reference: labels exchanged, what is read, what is written. -/
import Derived.Test.YtfffelgmgghldaaRn
import Derived.Test.YtfffelgmgghldaaMcR
import Derived.Test.YtfffelgmgghldaaPlainTu
namespace Go.Proofs.Ytfffelgmgghldaa.Wt
open Go.ChangeShapes Go.WideShapes Go.ChangeAt Go.RowKit
open Go.Proofs.Ytfffelgmgghldaa.Pl
set_option linter.unusedVariables false
set_option linter.unusedSimpArgs false
theorem res_turned (tm : Array Value) (W : World) (R : Nat) (ec : Int) (x0 x1 : Value) (hB : Blk W R #[x0, x1] 24) (h2 : tm.getD 4 undef = .pointer (some ⟨R, 0, none⟩)) (h3 : tm.getD 5 undef = .int .i64 ec) : (results Try.f11 tm).run Try.prog W = .ok (.tuple #[.agg #[x0, x1], .int .i64 ec]) W := by
  have c0 := hB.cell 0 (v := x0) rfl
  have c1 := hB.cell 1 (v := x1) rfl
  simp only [Array.getD_eq_getD_getElem?] at h2 h3
  simp [results, Try.results11, go_sem, h2, h3, c0, c1]
set_option maxRecDepth 100000 in
theorem turned_bad (v : Value) (m : Mc) (k : Int) (w : World) (h : Mach w v m) (hok : okM m) (h0 : faultM m ≠ 0) :
    Calls Try.prog 11 #[v, .int .i64 k] w fun e w' => RatRes (0, []) (faultM m) w e w' := by
  obtain ⟨z, l⟩ := m
  obtain ⟨r, hr⟩ : ∃ r, faultM (z, l) = r := ⟨_, rfl⟩
  have HM : Hid (Mach w v (z, l)) := h
  have HK : Hid (okM (z, l)) := hok
  have HR : Hid (faultM (z, l) = r) := hr
  have h0' : (r != 0) = true := bne_iff_ne.2 (by rw [← hr]; exact h0)
  obtain ⟨vs, rfl, hS⟩ := h
  obtain ⟨a, cap, rfl⟩ := hS.sl
  rw [hr]
  clear hS hok hr h0
  go_enter Try.func11, Try.ntmps11
  go_wp2_with (first
    | (go_at_call 25; (with_reducible refine (fault_any _ (z, l) _ (HM.out.later (B := w.heap.size) (by go_grown) (Nat.le_refl _)) HK.out r HR.out).mono ?_); rintro e w1 ⟨rfl, hb⟩; obtain ⟨s1, b1, b2, hb1⟩ := boxedTwo hb (by simp); have HB1 : Hid (Below w.heap.size w w1) := hb1; have KR := hidP b2; have e0 := b2.cell 0 (v := .int .i64 0) rfl; have e1 := b2.cell 1 (v := .slice none 0 0) rfl; have g0 := b2.fz 0; have g1 := b2.fz 1; clear b1 b2 hb1 hb))
  exact bodyPost_ret (res_turned _ _ (w.heap.size + 1) r _ _ ((KR.out.set 0 (.int .i64 0)).set 1 (.slice none 0 0)) rfl rfl) rfl ⟨_, rfl, mach_zeroR _, (HB1.out.setCell (Nat.le_succ _) _).setCell (Nat.le_succ _) _⟩
/-- A store into another arc's block. -/
theorem OwnArcs.setA {w : World} {base : Nat} {v : Value} {ar : List Ar} (h : OwnArcs w base v ar) {g : Nat} (hne : some g ≠ v.ownBlock) (o : Nat) (u : Value) : OwnArcs (w.setCell ⟨g, o, none⟩ u) base v ar := World.ownsRow.kept h (gSet w g o u) (.inr (Ne.symm hne))
def HeldA (b o : Nat) (p0 p1 p2 p3 : Int) (w : World) : Prop := w.cell? ⟨b, o, none⟩ = some (.int .i64 p0) ∧ w.cell? ⟨b, o + 1, none⟩ = some (.int .i64 p1) ∧ w.cell? ⟨b, o + 2, none⟩ = some (.int .i64 p2) ∧ w.cell? ⟨b, o + 3, none⟩ = some (.int .i64 p3)
theorem map_take {α β : Type} [Inhabited α] (f : α → β) {l : List α} {k : Nat} (h : k < l.length) : (l.take (k + 1)).map f = (l.take k).map f ++ [f (el l k)] := by rw [take_el h]; simp
set_option maxRecDepth 100000 in
set_option maxHeartbeats 3200000 in
theorem turned_ok (z : Int) (l : List St) (vs : Value) (k : Int) (w : World) (h : Mach w (.agg #[.int .i64 z, vs]) (z, l)) (hok : okM (z, l)) (hr : faultM (z, l) = 0) (hk : k = 0 ∨ k = 1 ∨ k = 2) :
    Calls Try.prog 11 #[.agg #[.int .i64 z, vs], .int .i64 k] w fun e w' => RatRes (tuM k (z, l)) 0 w e w' := by
  have HM : Hid (Mach w (.agg #[.int .i64 z, vs]) (z, l)) := h
  have HK : Hid (okM (z, l)) := hok
  have HR : Hid (faultM (z, l) = 0) := hr
  have HKK := hidP hk
  have h60 := (right_size hr).1
  obtain ⟨vs', hvs, hS⟩ := h
  simp only [Value.agg.injEq, Array.mk.injEq, List.cons.injEq, and_true, true_and] at hvs
  subst hvs
  obtain ⟨a, cap, rfl, hc⟩ := hS.get
  have HC : Hid (∀ j, j < l.length → ∃ b off va, a = some ⟨b, off, none⟩ ∧ b < w.heap.size ∧ w.cell? ⟨b, off + j * 2, none⟩ = some (.int .i64 (el l j).1) ∧ w.cell? ⟨b, off + j * 2 + 1, none⟩ = some va ∧ Arcs w va (el l j).2) := hc
  have HST : Hid (∀ j, j < l.length → finB (el l j).1 = true ∧ (el l j).2.length ≤ 400 ∧ ∀ p ∈ (el l j).2, 0 ≤ p.2.2.2 ∧ p.2.2.2 ≤ 1000) := right_states hr
  obtain ⟨TT, hTT⟩ : ∃ TT : Nat → List St, ∀ j, (l.take j).map (tuS k) = TT j := ⟨_, fun _ => rfl⟩
  have HT0 : Hid (TT 0 = []) := by show _ = _; rw [← hTT]; simp
  have HTS : Hid (∀ j, j < l.length → TT (j + 1) = TT j ++ [((el l j).1, (el l j).2.map (tuA k))]) := fun j hj => by rw [← hTT, ← hTT, map_take _ hj]; rfl
  have HTL : Hid (∀ j, j ≤ l.length → (TT j).length = j) := fun j hj => by rw [← hTT]; simp; omega
  have HTN : Hid (TT l.length = (tuM k (z, l)).2) := by show _ = _; rw [← hTT, List.take_length]; rfl
  clear hS hc hr hok hTT hk
  generalize hn : l.length = n at *
  have HN : Hid (l.length = n) := hn
  clear hn
  go_enter Try.func11, Try.ntmps11
  go_wp2_with (first
    | (go_at_call 25; (with_reducible refine (fault_any _ (z, l) _ (HM.out.later (B := w.heap.size) (by go_grown) (Nat.le_refl _)) HK.out 0 HR.out).mono ?_); rintro e w1 ⟨rfl, hb⟩; obtain ⟨s1, b1, b2, hb1⟩ := boxedTwo hb (by simp); have HB1 : Hid (Below w.heap.size w w1) := hb1; have KS := hidP b1; have KR := hidP b2; have e0 := b1.cell 0 (v := .int .i64 z) rfl; clear b1 b2 hb1 hb))
  have HOM : Hid (OwnSts (w1.alloc (.cells #[.int .i64 z, .slice none 0 0] 24)) w1.heap.size (.slice none 0 0) (TT 0)) := by rw [HT0.out]; exact OwnSts.nil _ _
  have HMM := hidP (Blk.made w1 #[.int .i64 z, .slice none 0 0] 24)
  have HBM : Hid (Below w1.heap.size w1 (w1.alloc (.cells #[.int .i64 z, .slice none 0 0] 24))) := (Below.refl _ _).alloc (Nat.le_refl _) _
  go_loopw [8] (fun s6 wr => ∃ (i : Nat) (av : Option Addr) (cv : Nat), s6 = .int .i64 i ∧ i ≤ n ∧ Hid (Blk wr w1.heap.size #[.int .i64 z, .slice av i cv] 24) ∧ Hid (OwnSts wr w1.heap.size (.slice av i cv) (TT i)) ∧ Hid (Below w1.heap.size w1 wr)) (fun s6 _ => n - (intOf s6).toNat)
  case atStart => exact ⟨0, _, _, by go_num, Nat.zero_le _, HMM, HOM, HBM⟩
  case round =>
    obtain ⟨i, av, cv, rfl, hi, hm, ho, hb⟩ := hrel
    clear HOM HMM HBM
    have KSr := hidP (KS.out.below hb.out KS.out.lt)
    have d1 := KSr.out.cell 1 (v := .slice a n cap) rfl
    have HBw := hidP (HB1.out.trans (hb.out.mono HB1.out.size))
    have hsr := hb.out.size
    have hmlt := hm.out.lt
    by_cases hin : i < n
    · have hin' : (i : Int) < (n : Int) := by omega
      have hi0 : (0 : Int) ≤ (i : Int) := by omega
      obtain ⟨b, off, va, rfl, hbl, y0, y1, gA⟩ := HC.out i hin
      obtain ⟨hfin, hal, hto⟩ := HST.out i hin
      have HTi := hidP (HTS.out i hin)
      have HLn := hidP (HTL.out i hi)
      obtain ⟨a2, cap2, hva, hvx⟩ := gA.get
      subst hva
      have HGA : Hid (∀ W, Below w.heap.size w W → Arcs W (.slice a2 (el l i).2.length cap2) (el l i).2) := fun W hW => gA.later hW (Nat.le_refl _)
      have z0 := (HBw.out.cell (p := ⟨b, off + i * 2, none⟩) hbl).trans y0
      have z1 := (HBw.out.cell (p := ⟨b, off + i * 2 + 1, none⟩) hbl).trans y1
      clear gA hto hfin y0 hvx
      generalize (el l i).1 = fin at *
      generalize (el l i).2 = ar at *
      generalize TT i = Lst at *
      obtain ⟨Ln, hLn⟩ : ∃ Ln, i = Ln := ⟨_, rfl⟩
      rw [hLn] at HLn hm ho
      have HLi := hidP hLn
      clear hLn
      obtain ⟨n2, hn2⟩ : ∃ n2, ar.length = n2 := ⟨_, rfl⟩
      have HN2 := hidP hn2
      rw [hn2] at z1 y1 HGA hal
      obtain ⟨NL, hNL⟩ : ∃ NL : Nat → List Ar, ∀ j, (ar.take j).map (tuA k) = NL j := ⟨_, fun _ => rfl⟩
      have HL0 : Hid (NL 0 = []) := by show _ = _; rw [← hNL]; simp
      have HLS : Hid (∀ j, j < n2 → NL (j + 1) = NL j ++ [tuA k (el ar j)]) := fun j hj => by rw [← hNL, ← hNL, map_take _ (by omega)]
      have HLL : Hid (∀ j, j ≤ n2 → (NL j).length = j) := fun j hj => by rw [← hNL]; simp; omega
      have HLN : Hid (NL n2 = ar.map (tuA k)) := by show _ = _; rw [← hNL, ← hn2, List.take_length]
      clear hn2 hNL
      have d2 := (KSr.out.alloc (.cells #[.int .i64 fin, .slice none 0 0] 44)).cell 1 (v := .slice (some ⟨b, off, none⟩) n cap) rfl
      have z2 := ((HBw.out.alloc HBw.out.size (.cells #[.int .i64 fin, .slice none 0 0] 44)).cell (p := ⟨b, off + i * 2 + 1, none⟩) hbl).trans y1
      go_wp2
      have HSB := hidP (Blk.made wr #[.int .i64 fin, .slice none 0 0] 44)
      have HOA : Hid (OwnArcs (wr.alloc (.cells #[.int .i64 fin, .slice none 0 0] 44)) (wr.heap.size + 1) (.slice none 0 0) (NL 0)) := by rw [HL0.out]; exact OwnArcs.nil _ _
      have HBI : Hid (Below wr.heap.size wr (wr.alloc (.cells #[.int .i64 fin, .slice none 0 0] 44))) := (Below.refl _ _).alloc (Nat.le_refl _) _
      obtain ⟨wq, rfl⟩ : ∃ wq, wq = wr := ⟨_, rfl⟩
      go_loopw [11] (fun s6 wr => ∃ (j : Nat) (aj : Option Addr) (cj : Nat), s6 = .int .i64 j ∧ j ≤ n2 ∧ Hid (Blk wr wq.heap.size #[.int .i64 fin, .slice aj j cj] 44) ∧ Hid (OwnArcs wr (wq.heap.size + 1) (.slice aj j cj) (NL j)) ∧ Hid (Below wq.heap.size wq wr)) (fun s6 _ => n2 - (intOf s6).toNat)
      case atStart => exact ⟨0, _, _, by go_num, Nat.zero_le _, HSB, HOA, HBI⟩
      case round =>
        clear HSB HOA HBI z0 z1 d1 d2 z2
        obtain ⟨j, aj, cj, rfl, hj, hs, hoa, hbi⟩ := hrel
        have hsl := hs.out.lt
        have hsz := hbi.out.size
        have HBx := hidP (HBw.out.trans (hbi.out.mono HBw.out.size))
        by_cases hjn : j < n2
        · have hjn' : (j : Int) < (n2 : Int) := by omega
          have hj0 : (0 : Int) ≤ (j : Int) := by omega
          obtain ⟨b3, off3, ha3, hb3, x0, x1, x2, x3⟩ := arcs_at (HGA.out w (Below.refl _ _)) (j := j) (by rw [HN2.out]; exact hjn)
          subst ha3
          have HLj := hidP (HLS.out j hjn)
          have HLj0 := hidP (HLL.out j hj)
          generalize el ar j = p at *
          obtain ⟨p0, p1, p2, p3⟩ := p
          simp only at x0 x1 x2 x3
          have HX : Hid (∀ W, Below w.heap.size w W → HeldA b3 (off3 + j * 4) p0 p1 p2 p3 W) := fun W hW => ⟨(hW.cell (p := ⟨b3, off3 + j * 4, none⟩) hb3).trans x0, (hW.cell (p := ⟨b3, off3 + j * 4 + 1, none⟩) hb3).trans x1, (hW.cell (p := ⟨b3, off3 + j * 4 + 2, none⟩) hb3).trans x2, (hW.cell (p := ⟨b3, off3 + j * 4 + 3, none⟩) hb3).trans x3⟩
          generalize NL j = cu at *
          obtain ⟨Lj, hLj⟩ : ∃ Lj, j = Lj := ⟨_, rfl⟩
          rw [hLj] at HLj0 hs hoa
          have HLJ := hidP hLj
          clear hLj x0 x1 x2 x3
          have HSD := HX.out _ HBx.out.drew
          go_wp2
          refine region_anyL (HeldA b3 (off3 + j * 4) p0 p1 p2 p3) 22 (by kernel_rfl) ?_
          refine anyL_take (i := 0) (v := ?v0_1) at0 (by kernel_rfl) (by kernel_rfl) (by kernel_rfl) (by kernel_rfl) (fun _ _ _ h => h) rfl ?y0_1 HSD ?r0_1
          case y0_1 => intro wx hx; obtain ⟨h0, h1, h2, h3⟩ := hx; go_simp; try (with_reducible rfl)
          simp only [Act.put, List.setIfInBounds_toArray, List.set_cons_zero, List.set_cons_succ]
          refine anyL_take (i := 1) (v := ?v1_2) (atS at0) (by kernel_rfl) (by kernel_rfl) (by kernel_rfl) (by kernel_rfl) (fun _ _ _ h => h) rfl ?y1_2 HSD ?r1_2
          case y1_2 => intro wx hx; obtain ⟨h0, h1, h2, h3⟩ := hx; go_simp; try (with_reducible rfl)
          simp only [Act.put, List.setIfInBounds_toArray, List.set_cons_zero, List.set_cons_succ]
          refine anyL_take (i := 2) (v := ?v2_3) (atS (atS at0)) (by kernel_rfl) (by kernel_rfl) (by kernel_rfl) (by kernel_rfl) (fun _ _ _ h => h) rfl ?y2_3 HSD ?r2_3
          case y2_3 => intro wx hx; obtain ⟨h0, h1, h2, h3⟩ := hx; go_simp; try (with_reducible rfl)
          simp only [Act.put, List.setIfInBounds_toArray, List.set_cons_zero, List.set_cons_succ]
          refine anyL_take (i := 3) (v := ?v3_4) (atS (atS (atS at0))) (by kernel_rfl) (by kernel_rfl) (by kernel_rfl) (by kernel_rfl) (fun _ _ _ h => h) rfl ?y3_4 HSD ?r3_4
          case y3_4 => intro wx hx; obtain ⟨h0, h1, h2, h3⟩ := hx; go_simp; try (with_reducible rfl)
          simp only [Act.put, List.setIfInBounds_toArray, List.set_cons_zero, List.set_cons_succ]
          refine anyL_take (i := 4) (v := ?v4_5) (atS (atS (atS (atS at0)))) (by kernel_rfl) (by kernel_rfl) (by kernel_rfl) (by kernel_rfl) (fun _ _ _ h => h) rfl ?y4_5 HSD ?r4_5
          case y4_5 => intro wx hx; obtain ⟨h0, h1, h2, h3⟩ := hx; go_simp; try (with_reducible rfl)
          simp only [Act.put, List.setIfInBounds_toArray, List.set_cons_zero, List.set_cons_succ]
          refine anyL_take (i := 5) (v := ?v5_6) (atS (atS (atS (atS (atS at0))))) (by kernel_rfl) (by kernel_rfl) (by kernel_rfl) (by kernel_rfl) (fun _ _ _ h => h) rfl ?y5_6 HSD ?r5_6
          case y5_6 => intro wx hx; obtain ⟨h0, h1, h2, h3⟩ := hx; go_simp; try (with_reducible rfl)
          simp only [Act.put, List.setIfInBounds_toArray, List.set_cons_zero, List.set_cons_succ]
          refine anyL_take (i := 6) (v := ?v6_7) (atS (atS (atS (atS (atS (atS at0)))))) (by kernel_rfl) (by kernel_rfl) (by kernel_rfl) (by kernel_rfl) (fun _ _ _ h => h) rfl ?y6_7 HSD ?r6_7
          case y6_7 => intro wx hx; obtain ⟨h0, h1, h2, h3⟩ := hx; go_simp; try (with_reducible rfl)
          simp only [Act.put, List.setIfInBounds_toArray, List.set_cons_zero, List.set_cons_succ]
          refine anyL_take (i := 7) (v := ?v7_8) (atS (atS (atS (atS (atS (atS (atS at0))))))) (by kernel_rfl) (by kernel_rfl) (by kernel_rfl) (by kernel_rfl) (fun _ _ _ h => h) rfl ?y7_8 HSD ?r7_8
          case y7_8 => intro wx hx; obtain ⟨h0, h1, h2, h3⟩ := hx; go_simp; try (with_reducible rfl)
          simp only [Act.put, List.setIfInBounds_toArray, List.set_cons_zero, List.set_cons_succ]
          refine anyL_take (i := 8) (v := ?v8_9) (atS (atS (atS (atS (atS (atS (atS (atS at0)))))))) (by kernel_rfl) (by kernel_rfl) (by kernel_rfl) (by kernel_rfl) (fun _ _ _ h => h) rfl ?y8_9 HSD ?r8_9
          case y8_9 => intro wx hx; obtain ⟨h0, h1, h2, h3⟩ := hx; go_simp; try (with_reducible rfl)
          simp only [Act.put, List.setIfInBounds_toArray, List.set_cons_zero, List.set_cons_succ]
          refine anyL_take (i := 9) (v := ?v9_10) (atS (atS (atS (atS (atS (atS (atS (atS (atS at0))))))))) (by kernel_rfl) (by kernel_rfl) (by kernel_rfl) (by kernel_rfl) (fun _ _ _ h => h) rfl ?y9_10 HSD ?r9_10
          case y9_10 => intro wx hx; obtain ⟨h0, h1, h2, h3⟩ := hx; go_simp; try (with_reducible rfl)
          simp only [Act.put, List.setIfInBounds_toArray, List.set_cons_zero, List.set_cons_succ]
          refine anyL_take (i := 10) (v := ?v10_11) (atS (atS (atS (atS (atS (atS (atS (atS (atS (atS at0)))))))))) (by kernel_rfl) (by kernel_rfl) (by kernel_rfl) (by kernel_rfl) (fun _ _ _ h => h) rfl ?y10_11 HSD ?r10_11
          case y10_11 => intro wx hx; obtain ⟨h0, h1, h2, h3⟩ := hx; go_simp; try (with_reducible rfl)
          simp only [Act.put, List.setIfInBounds_toArray, List.set_cons_zero, List.set_cons_succ]
          refine anyL_take (i := 11) (v := ?v11_12) (atS (atS (atS (atS (atS (atS (atS (atS (atS (atS (atS at0))))))))))) (by kernel_rfl) (by kernel_rfl) (by kernel_rfl) (by kernel_rfl) (fun _ _ _ h => h) rfl ?y11_12 HSD ?r11_12
          case y11_12 => intro wx hx; obtain ⟨h0, h1, h2, h3⟩ := hx; go_simp; try (with_reducible rfl)
          simp only [Act.put, List.setIfInBounds_toArray, List.set_cons_zero, List.set_cons_succ]
          refine anyL_take (i := 12) (v := ?v12_13) (atS (atS (atS (atS (atS (atS (atS (atS (atS (atS (atS (atS at0)))))))))))) (by kernel_rfl) (by kernel_rfl) (by kernel_rfl) (by kernel_rfl) (fun _ _ _ h => h) rfl ?y12_13 HSD ?r12_13
          case y12_13 => intro wx hx; obtain ⟨h0, h1, h2, h3⟩ := hx; go_simp; try (with_reducible rfl)
          simp only [Act.put, List.setIfInBounds_toArray, List.set_cons_zero, List.set_cons_succ]
          refine anyL_take (i := 13) (v := ?v13_14) (atS (atS (atS (atS (atS (atS (atS (atS (atS (atS (atS (atS (atS at0))))))))))))) (by kernel_rfl) (by kernel_rfl) (by kernel_rfl) (by kernel_rfl) (fun _ _ _ h => h) rfl ?y13_14 HSD ?r13_14
          case y13_14 => intro wx hx; obtain ⟨h0, h1, h2, h3⟩ := hx; go_simp; try (with_reducible rfl)
          simp only [Act.put, List.setIfInBounds_toArray, List.set_cons_zero, List.set_cons_succ]
          refine anyL_take (i := 14) (v := ?v14_15) (atS (atS (atS (atS (atS (atS (atS (atS (atS (atS (atS (atS (atS (atS at0)))))))))))))) (by kernel_rfl) (by kernel_rfl) (by kernel_rfl) (by kernel_rfl) (fun _ _ _ h => h) rfl ?y14_15 HSD ?r14_15
          case y14_15 => intro wx hx; obtain ⟨h0, h1, h2, h3⟩ := hx; go_simp; try (with_reducible rfl)
          simp only [Act.put, List.setIfInBounds_toArray, List.set_cons_zero, List.set_cons_succ]
          refine anyL_take (i := 15) (v := ?v15_16) (atS (atS (atS (atS (atS (atS (atS (atS (atS (atS (atS (atS (atS (atS (atS at0))))))))))))))) (by kernel_rfl) (by kernel_rfl) (by kernel_rfl) (by kernel_rfl) (fun _ _ _ h => h) rfl ?y15_16 HSD ?r15_16
          case y15_16 => intro wx hx; obtain ⟨h0, h1, h2, h3⟩ := hx; go_simp; try (with_reducible rfl)
          simp only [Act.put, List.setIfInBounds_toArray, List.set_cons_zero, List.set_cons_succ]
          refine anyL_take (i := 16) (v := ?v16_17) (atS (atS (atS (atS (atS (atS (atS (atS (atS (atS (atS (atS (atS (atS (atS (atS at0)))))))))))))))) (by kernel_rfl) (by kernel_rfl) (by kernel_rfl) (by kernel_rfl) (fun _ _ _ h => h) rfl ?y16_17 HSD ?r16_17
          case y16_17 => intro wx hx; obtain ⟨h0, h1, h2, h3⟩ := hx; go_simp; try (with_reducible rfl)
          simp only [Act.put, List.setIfInBounds_toArray, List.set_cons_zero, List.set_cons_succ]
          refine anyL_take (i := 17) (v := ?v17_18) (atS (atS (atS (atS (atS (atS (atS (atS (atS (atS (atS (atS (atS (atS (atS (atS (atS at0))))))))))))))))) (by kernel_rfl) (by kernel_rfl) (by kernel_rfl) (by kernel_rfl) (fun _ _ _ h => h) rfl ?y17_18 HSD ?r17_18
          case y17_18 => intro wx hx; obtain ⟨h0, h1, h2, h3⟩ := hx; go_simp; try (with_reducible rfl)
          simp only [Act.put, List.setIfInBounds_toArray, List.set_cons_zero, List.set_cons_succ]
          refine anyL_take (i := 18) (v := ?v18_19) (atS (atS (atS (atS (atS (atS (atS (atS (atS (atS (atS (atS (atS (atS (atS (atS (atS (atS at0)))))))))))))))))) (by kernel_rfl) (by kernel_rfl) (by kernel_rfl) (by kernel_rfl) (fun _ _ _ h => h) rfl ?y18_19 HSD ?r18_19
          case y18_19 => intro wx hx; obtain ⟨h0, h1, h2, h3⟩ := hx; go_simp; try (with_reducible rfl)
          simp only [Act.put, List.setIfInBounds_toArray, List.set_cons_zero, List.set_cons_succ]
          refine anyL_take (i := 19) (v := ?v19_20) (atS (atS (atS (atS (atS (atS (atS (atS (atS (atS (atS (atS (atS (atS (atS (atS (atS (atS (atS at0))))))))))))))))))) (by kernel_rfl) (by kernel_rfl) (by kernel_rfl) (by kernel_rfl) (fun _ _ _ h => h) rfl ?y19_20 HSD ?r19_20
          case y19_20 => intro wx hx; obtain ⟨h0, h1, h2, h3⟩ := hx; go_simp; try (with_reducible rfl)
          simp only [Act.put, List.setIfInBounds_toArray, List.set_cons_zero, List.set_cons_succ]
          refine anyL_take (i := 20) (v := ?v20_21) (atS (atS (atS (atS (atS (atS (atS (atS (atS (atS (atS (atS (atS (atS (atS (atS (atS (atS (atS (atS at0)))))))))))))))))))) (by kernel_rfl) (by kernel_rfl) (by kernel_rfl) (by kernel_rfl) (fun _ _ _ h => h) rfl ?y20_21 HSD ?r20_21
          case y20_21 => intro wx hx; obtain ⟨h0, h1, h2, h3⟩ := hx; go_simp; try (with_reducible rfl)
          simp only [Act.put, List.setIfInBounds_toArray, List.set_cons_zero, List.set_cons_succ]
          refine anyL_one (i := 21) (atS (atS (atS (atS (atS (atS (atS (atS (atS (atS (atS (atS (atS (atS (atS (atS (atS (atS (atS (atS (atS at0))))))))))))))))))))) (by kernel_rfl) rfl (fun K hK => ?_)
          go_simp
          have HSA := HX.out _ (HBx.out.drew.alloc HBx.out.size (.cells #[.int .i64 0, .int .i64 0, .int .i64 0, .int .i64 0] 47))
          refine hK _ _ (.inr HSA) ?_
          try simp only [Act.put, List.setIfInBounds_toArray, List.set_cons_zero, List.set_cons_succ]
          refine anyL_one (i := 22) (atS (atS (atS (atS (atS (atS (atS (atS (atS (atS (atS (atS (atS (atS (atS (atS (atS (atS (atS (atS (atS (atS at0)))))))))))))))))))))) (by kernel_rfl) rfl (fun K hK => ?_)
          go_simp
          refine hK _ _ (.inl rfl) (anyL_done (by kernel_rfl) (NoPanic.normal ?_))
          try simp only [Act.put, List.setIfInBounds_toArray, List.set_cons_zero, List.set_cons_succ]
          clear HSD HSA
          have HAb : Hid (Blk ((wr.alloc (.cells #[.int .i64 p1, .int .i64 p0, .int .i64 p2, .int .i64 p3] 47)).drew) wr.heap.size #[.int .i64 p1, .int .i64 p0, .int .i64 p2, .int .i64 p3] 47) := Blk.made wr _ _
          have HSv : Hid (Blk ((wr.alloc (.cells #[.int .i64 p1, .int .i64 p0, .int .i64 p2, .int .i64 p3] 47)).drew) wq.heap.size #[.int .i64 fin, .slice aj Lj cj] 44) := (hs.out.alloc _).drew
          have HOv : Hid (OwnArcs ((wr.alloc (.cells #[.int .i64 p1, .int .i64 p0, .int .i64 p2, .int .i64 p3] 47)).drew) (wq.heap.size + 1) (.slice aj Lj cj) cu) := hoa.out.later ((Below.refl _ _).alloc (Nat.le_refl _) _).drew
          have HBv : Hid (Below wq.heap.size wq ((wr.alloc (.cells #[.int .i64 p1, .int .i64 p0, .int .i64 p2, .int .i64 p3] 47)).drew)) := (hbi.out.alloc hbi.out.size _).drew
          have hne : some wr.heap.size ≠ (Value.slice aj Lj cj).ownBlock := fun e => by
            have := (World.ownsRow.lt hoa.out wr.heap.size e.symm).2
            omega
          generalize (wr.alloc (.cells #[.int .i64 p1, .int .i64 p0, .int .i64 p2, .int .i64 p3] 47)).drew = wv at *
          have hAlt := HAb.out.lt
          have hsv := HBv.out.size
          have HXv : HeldA b3 (off3 + j * 4) p0 p1 p2 p3 wv := HX.out wv (HBw.out.trans (HBv.out.mono HBw.out.size))
          obtain ⟨x0, x1, x2, x3⟩ := HXv
          have m0 := HAb.out.cell 0 (v := .int .i64 p1) rfl
          have m1 := HAb.out.cell 1 (v := .int .i64 p0) rfl
          have m2 := HAb.out.cell 2 (v := .int .i64 p2) rfl
          have m3 := HAb.out.cell 3 (v := .int .i64 p3) rfl
          have f0 := HAb.out.fz 0
          have f1 := HAb.out.fz 1
          rcases HKK.out with rfl | rfl | rfl
          · have HA5 : Hid (Blk wv wr.heap.size #[.int .i64 p1, .int .i64 p0, .int .i64 p2, .int .i64 p3] 47) := HAb.out
            have HS5 : Hid (Blk wv wq.heap.size #[.int .i64 fin, .slice aj Lj cj] 44) := HSv.out
            have HO5 : Hid (OwnArcs wv (wq.heap.size + 1) (.slice aj Lj cj) cu) := HOv.out
            have HB5 : Hid (Below wq.heap.size wq wv) := HBv.out
            have hTA : tuA 0 (p0, p1, p2, p3) = (p1, p0, p2, p3) := by simp [tuA]
            rw [hTA] at HLj
            clear hTA
            obtain ⟨a4, c4, w4, hr4, ho4, hb4⟩ := OwnArcs.push (W := wv) (base := wq.heap.size + 1) HO5.out (p1, p0, p2, p3) (by have := HLj0.out; have := HLJ.out; omega) (by have := HB5.out.size; have := HS5.out.lt; omega)
            simp only [HLj0.out, World.size_alloc] at hr4 ho4
            have R4 := hidP hr4
            have HO4 := hidP ho4
            have HS4 := hidP (HS5.out.below hb4 (Nat.lt_succ_self _))
            have HB4 := hidP (HB5.out.trans (hb4.mono (Nat.le_succ _)))
            have n0 := HA5.out.cell 0 (v := .int .i64 p1) rfl
            have n1 := HA5.out.cell 1 (v := .int .i64 p0) rfl
            have n2' := HA5.out.cell 2 (v := .int .i64 p2) rfl
            have n3 := HA5.out.cell 3 (v := .int .i64 p3) rfl
            have sv := HS5.out.cell 1 (v := .slice aj Lj cj) rfl
            have sv' := HSv.out.cell 1 (v := .slice aj Lj cj) rfl
            have s4 := HS4.out.cell 1 (v := .slice aj Lj cj) rfl
            have g4 := HS4.out.fz 1
            clear hr4 ho4 hb4
            go_wp2_with (first
              | (at_builtin; refine wpListAppendRun rfl _ _ 42 rfl rfl rfl R4.out ?_; clear R4))
            go_roundw
            case rel => have hLj := HLJ.out; subst hLj; exact ⟨j + 1, a4, c4, by go_num, by omega, HS4.out.set 1 _, by rw [HLj.out]; exact ownsRow_setCell_below HO4.out (a := ⟨wq.heap.size, 1, none⟩) (Nat.lt_succ_self _) _, HB4.out.setCell (p := ⟨wq.heap.size, 1, none⟩) (Nat.le_refl _) _⟩
            case measure => simp [intOf]; omega
          · have HA5 : Hid (Blk (wv.setCell ⟨wr.heap.size, 0, none⟩ (.int .i64 p0)) wr.heap.size #[.int .i64 p0, .int .i64 p0, .int .i64 p2, .int .i64 p3] 47) := (HAb.out.set 0 (.int .i64 p0))
            have HS5 : Hid (Blk (wv.setCell ⟨wr.heap.size, 0, none⟩ (.int .i64 p0)) wq.heap.size #[.int .i64 fin, .slice aj Lj cj] 44) := (HSv.out.setO ⟨wr.heap.size, 0, none⟩ (.int .i64 p0) (by show wq.heap.size ≠ wr.heap.size; omega))
            have HO5 : Hid (OwnArcs (wv.setCell ⟨wr.heap.size, 0, none⟩ (.int .i64 p0)) (wq.heap.size + 1) (.slice aj Lj cj) cu) := (HOv.out.setA hne 0 _)
            have HB5 : Hid (Below wq.heap.size wq (wv.setCell ⟨wr.heap.size, 0, none⟩ (.int .i64 p0))) := (HBv.out.setCell (p := ⟨wr.heap.size, 0, none⟩) (by show _ ≤ wr.heap.size; omega) _)
            have hTA : tuA 1 (p0, p1, p2, p3) = (p0, p0, p2, p3) := by simp [tuA]
            rw [hTA] at HLj
            clear hTA
            obtain ⟨a4, c4, w4, hr4, ho4, hb4⟩ := OwnArcs.push (W := (wv.setCell ⟨wr.heap.size, 0, none⟩ (.int .i64 p0))) (base := wq.heap.size + 1) HO5.out (p0, p0, p2, p3) (by have := HLj0.out; have := HLJ.out; omega) (by have := HB5.out.size; have := HS5.out.lt; omega)
            simp only [HLj0.out, World.size_setCell] at hr4 ho4
            have R4 := hidP hr4
            have HO4 := hidP ho4
            have HS4 := hidP (HS5.out.below hb4 (Nat.lt_succ_self _))
            have HB4 := hidP (HB5.out.trans (hb4.mono (Nat.le_succ _)))
            have n0 := HA5.out.cell 0 (v := .int .i64 p0) rfl
            have n1 := HA5.out.cell 1 (v := .int .i64 p0) rfl
            have n2' := HA5.out.cell 2 (v := .int .i64 p2) rfl
            have n3 := HA5.out.cell 3 (v := .int .i64 p3) rfl
            have sv := HS5.out.cell 1 (v := .slice aj Lj cj) rfl
            have sv' := HSv.out.cell 1 (v := .slice aj Lj cj) rfl
            have s4 := HS4.out.cell 1 (v := .slice aj Lj cj) rfl
            have g4 := HS4.out.fz 1
            clear hr4 ho4 hb4
            go_wp2_with (first
              | (at_builtin; refine wpListAppendRun rfl _ _ 42 rfl rfl rfl R4.out ?_; clear R4))
            go_roundw
            case rel => have hLj := HLJ.out; subst hLj; exact ⟨j + 1, a4, c4, by go_num, by omega, HS4.out.set 1 _, by rw [HLj.out]; exact ownsRow_setCell_below HO4.out (a := ⟨wq.heap.size, 1, none⟩) (Nat.lt_succ_self _) _, HB4.out.setCell (p := ⟨wq.heap.size, 1, none⟩) (Nat.le_refl _) _⟩
            case measure => simp [intOf]; omega
          · have HA5 : Hid (Blk (wv.setCell ⟨wr.heap.size, 1, none⟩ (.int .i64 p1)) wr.heap.size #[.int .i64 p1, .int .i64 p1, .int .i64 p2, .int .i64 p3] 47) := (HAb.out.set 1 (.int .i64 p1))
            have HS5 : Hid (Blk (wv.setCell ⟨wr.heap.size, 1, none⟩ (.int .i64 p1)) wq.heap.size #[.int .i64 fin, .slice aj Lj cj] 44) := (HSv.out.setO ⟨wr.heap.size, 1, none⟩ (.int .i64 p1) (by show wq.heap.size ≠ wr.heap.size; omega))
            have HO5 : Hid (OwnArcs (wv.setCell ⟨wr.heap.size, 1, none⟩ (.int .i64 p1)) (wq.heap.size + 1) (.slice aj Lj cj) cu) := (HOv.out.setA hne 1 _)
            have HB5 : Hid (Below wq.heap.size wq (wv.setCell ⟨wr.heap.size, 1, none⟩ (.int .i64 p1))) := (HBv.out.setCell (p := ⟨wr.heap.size, 1, none⟩) (by show _ ≤ wr.heap.size; omega) _)
            have hTA : tuA 2 (p0, p1, p2, p3) = (p1, p1, p2, p3) := by simp [tuA]
            rw [hTA] at HLj
            clear hTA
            obtain ⟨a4, c4, w4, hr4, ho4, hb4⟩ := OwnArcs.push (W := (wv.setCell ⟨wr.heap.size, 1, none⟩ (.int .i64 p1))) (base := wq.heap.size + 1) HO5.out (p1, p1, p2, p3) (by have := HLj0.out; have := HLJ.out; omega) (by have := HB5.out.size; have := HS5.out.lt; omega)
            simp only [HLj0.out, World.size_setCell] at hr4 ho4
            have R4 := hidP hr4
            have HO4 := hidP ho4
            have HS4 := hidP (HS5.out.below hb4 (Nat.lt_succ_self _))
            have HB4 := hidP (HB5.out.trans (hb4.mono (Nat.le_succ _)))
            have n0 := HA5.out.cell 0 (v := .int .i64 p1) rfl
            have n1 := HA5.out.cell 1 (v := .int .i64 p1) rfl
            have n2' := HA5.out.cell 2 (v := .int .i64 p2) rfl
            have n3 := HA5.out.cell 3 (v := .int .i64 p3) rfl
            have sv := HS5.out.cell 1 (v := .slice aj Lj cj) rfl
            have sv' := HSv.out.cell 1 (v := .slice aj Lj cj) rfl
            have s4 := HS4.out.cell 1 (v := .slice aj Lj cj) rfl
            have g4 := HS4.out.fz 1
            clear hr4 ho4 hb4
            go_wp2_with (first
              | (at_builtin; refine wpListAppendRun rfl _ _ 42 rfl rfl rfl R4.out ?_; clear R4))
            go_roundw
            case rel => have hLj := HLJ.out; subst hLj; exact ⟨j + 1, a4, c4, by go_num, by omega, HS4.out.set 1 _, by rw [HLj.out]; exact ownsRow_setCell_below HO4.out (a := ⟨wq.heap.size, 1, none⟩) (Nat.lt_succ_self _) _, HB4.out.setCell (p := ⟨wq.heap.size, 1, none⟩) (Nat.le_refl _) _⟩
            case measure => simp [intOf]; omega
        · have hjn' : ¬ (j : Int) < (n2 : Int) := by omega
          obtain rfl : n2 = j := by omega
          rw [HLN.out] at hoa
          have hs1 := hs.out.cell 0 (v := .int .i64 fin) rfl
          have hs2 := hs.out.cell 1 (v := .slice aj n2 cj) rfl
          have hmq := hm.out.below hbi.out hmlt
          have hm1 := hmq.cell 1 (v := .slice av Ln cv) rfl
          obtain ⟨a6, c6, w6, hr6, hM6, hb6, hO7, hM7, hb7⟩ := push_step (w5 := wr) (B := w1.heap.size) (Mb := w1.heap.size) (fin, ar.map (tuA k)) (ho.out.laterB hbi.out) (hoa.out.mono (by omega)) hmq (by omega) (by omega) (by have := HLn.out; have := HLi.out; omega)
          rw [HLn.out] at hr6 hO7 hM7 hb7
          simp only at hr6
          have R6 := hidP hr6
          have f6 := hM6.fz 1
          have c6' := hM6.cell 1 (v := .slice av Ln cv) rfl
          have HO7 := hidP hO7
          have HM7 := hidP hM7
          have HB7 := hidP ((hb.out.trans (hbi.out.mono hsr)).trans hb7)
          clear hr6 hM6 hb6 hO7 hM7 hb7
          go_wp2_with (first
            | (at_builtin; refine wpListAppendRun rfl _ _ 22 rfl rfl rfl R6.out ?_; clear R6))
          go_roundw
          case rel => have hLn := HLi.out; subst hLn; exact ⟨i + 1, a6, c6, by go_num, by omega, HM7, by rw [HTi.out]; exact HO7, HB7⟩
          case measure => simp [intOf]; omega
    · have hin' : ¬ (i : Int) < (n : Int) := by omega
      obtain rfl : i = n := by omega
      rw [HTN.out] at ho
      have m0 := hm.out.cell 0 (v := .int .i64 z) rfl
      have m1 := hm.out.cell 1 (v := .slice av i cv) rfl
      have KRr := hidP (KR.out.below hb.out KR.out.lt)
      have hkr := KR.out.lt
      have q0 := KRr.out.cell 0 (v := .int .i64 0) rfl
      have q1 := KRr.out.cell 1 (v := .slice none 0 0) rfl
      have g0 := KRr.out.fz 0
      have g1 := KRr.out.fz 1
      go_wp2
      exact bodyPost_ret (res_turned _ _ (w.heap.size + 1) 0 _ _ ((KRr.out.set 0 (.int .i64 z)).set 1 (.slice av i cv)) rfl rfl) rfl ⟨_, rfl, ⟨_, rfl, ((ho.out.setCell (a := ⟨w.heap.size + 1, 0, none⟩) hkr _).setCell (a := ⟨w.heap.size + 1, 1, none⟩) hkr _).sts⟩, (HBw.out.setCell (Nat.le_succ _) _).setCell (Nat.le_succ _) _⟩
theorem turned_any (v : Value) (m : Mc) (k : Int) (w : World) (h : Mach w v m) (hok : okM m) (hk : k = 0 ∨ k = 1 ∨ k = 2) :
    Calls Try.prog 11 #[v, .int .i64 k] w fun e w' => RatRes (turM k m) (faultM m) w e w' := by
  unfold turM
  by_cases h0 : faultM m = 0
  · rw [if_pos h0, h0]
    obtain ⟨z, l⟩ := m
    obtain ⟨vs, rfl, hS⟩ := id h
    exact turned_ok z l vs k w h hok h0 hk
  · rw [if_neg h0]
    exact turned_bad v m k w h hok h0
end Go.Proofs.Ytfffelgmgghldaa.Wt
