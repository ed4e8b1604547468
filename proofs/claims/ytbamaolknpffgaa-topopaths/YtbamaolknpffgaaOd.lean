/- The reference: how many arcs the longest path has. -/
import Derived.Test.YtbamaolknpffgaaOc
namespace Go.Proofs.Ytbamaolknpffgaa.Pl
theorem maxF_bd {f : Nat → Int} {k : Int} (h : ∀ t, -1 ≤ f t ∧ f t ≤ k) (ar : List Ar) {n : Int} (hn : -1 ≤ n ∧ n ≤ k + 1) : -1 ≤ maxF f n ar ∧ maxF f n ar ≤ k + 1 := by
  induction ar generalizing n with
  | nil => exact hn
  | cons a l ih =>
    rw [maxF]
    refine ih ?_
    have := h a.2.2.2.toNat
    unfold stepD
    split <;> omega
theorem far_bd (l : List St) (out : List Int) (p : Nat) : -1 ≤ farF l out p ∧ farF l out p ≤ out.length := by
  induction out generalizing p with
  | nil => simp [farF]
  | cons x out ih =>
    show -1 ≤ (if p = x.toNat then _ else _) ∧ (if p = x.toNat then _ else _) ≤ _
    split
    · have := maxF_bd (k := out.length) ih (el l p).2 (n := baseD (el l p).1) (by unfold baseD; split <;> omega)
      simp only [List.length_cons]
      omega
    · have := ih p
      simp only [List.length_cons]
      omega
end Go.Proofs.Ytbamaolknpffgaa.Pl
namespace Go.Proofs.Ytbamaolknpffgaa.Wt
open Go.ChangeShapes Go.WideShapes Go.ChangeAt Go.RowKit
open Go.Proofs.Ytbamaolknpffgaa.Pl
set_option linter.unusedVariables false
set_option linter.unusedSimpArgs false
set_option maxRecDepth 100000 in
set_option maxHeartbeats 6400000 in
theorem longestOf_fine (v : Value) (m : Mc) (w : World) (h : Mach w v m) (hok : okM m) (hr : faultM m = 0) (hcy : ¬ CycleL m.2) :
    Calls Try.prog 16 #[v] w fun e w' => ∃ (x ec : Int), e = .returned (.tuple #[.int .i64 x, .int .i64 ec]) ∧ (∃ out, OrderL m.2 out ∧ farA m.1 (farF m.2 out m.1.toNat) = (x, ec)) ∧ Below w.heap.size w w' := by
  obtain ⟨z, l⟩ := m
  obtain ⟨vs, rfl, hS⟩ := h
  obtain ⟨a, cap, rfl, hc⟩ := hS.get
  have HM : Hid (Mach w (.agg #[.int .i64 z, .slice a l.length cap]) (z, l)) := ⟨_, rfl, hS⟩
  have HK : Hid (okM (z, l)) := hok
  have HR : Hid (faultM (z, l) = 0) := hr
  have HCY : Hid (¬ CycleL l) := hcy
  have h60 := (right_size hr).1
  have HC : Hid (∀ j, j < l.length → ∃ b off va, a = some ⟨b, off, none⟩ ∧ b < w.heap.size ∧ w.cell? ⟨b, off + j * 2, none⟩ = some (.int .i64 (el l j).1) ∧ w.cell? ⟨b, off + j * 2 + 1, none⟩ = some va ∧ Arcs w va (el l j).2) := hc
  have HLK : Hid (∀ j, j < l.length → (el l j).2.length * 32 ≤ 140737488351232) := hok.2
  have HTO : Hid (∀ j, j < l.length → ∀ c ∈ (el l j).2, ∃ t : Nat, c.2.2.2 = (t : Int) ∧ t < l.length) := fun j hj c hc => by
    have h9 := List.all_eq_true.1 (right_st hr hj).2 c hc
    simp only [arcB, inB, Bool.and_eq_true, decide_eq_true_eq] at h9
    exact ⟨c.2.2.2.toNat, by omega, by omega⟩
  have hzr := (faultM_zero hr).2
  simp only [rangeB, Bool.and_eq_true, inB, decide_eq_true_eq] at hzr
  have hz1 : z < (l.length : Int) := by omega
  clear hS hc hok hr hcy hzr
  simp only
  generalize hn : l.length = n at *
  have HN : Hid (l.length = n) := hn
  clear hn
  have hmk := run_nums n (by omega)
  go_enter Try.func16, Try.ntmps16
  go_wp2_with (first
    | (go_at_call 10; (with_reducible refine (ordered_fine _ (z, l) _ (HM.out.later (B := w.heap.size) (by go_grown) (Nat.le_refl _)) HK.out HR.out HCY.out).mono ?_); rintro e w1 ⟨vo, rfl, ⟨out, hO, hNu⟩, hb⟩; obtain ⟨s1, b1, hb1⟩ := boxed hb (by simp); have HO : Hid (OrderL l out) := hO; have HOL : Hid (out.length = n) := hO.2.trans HN.out; obtain ⟨xo, co, hvo, hco⟩ := hNu.get; (replace hvo : vo = Value.slice xo n co := hvo.trans (by rw [show out.length = n from HOL.out])); subst hvo; have HCO : Hid (∀ j, j < out.length → ∃ b off, xo = some ⟨b, off, none⟩ ∧ b < w1.heap.size ∧ w1.cell? ⟨b, off + j, none⟩ = some (.int .i64 (el out j))) := hco; have K0 : Hid (Blk w1 w.heap.size #[.int .i64 z, .slice a n cap] 24) := b1; have c1 := b1.cell 1 (v := .slice a n cap) rfl; have HB1 : Hid (Below w.heap.size w w1) := hb1; have k5 : IntKind.i64.wrap ((n : Int) - 1) = (n : Int) - 1 := wrapI (by omega) (by omega); clear b1 hb1 hb hO hNu hco))
  clear c1
  go_loopw [7] (fun i wr => ∃ (c : Nat) (x : Int) (ms : List Int), c ≤ n ∧ i = .int .i64 x ∧ x + 1 = (c : Int) ∧ Hid (ms.length = n ∧ ∀ q, q < n → el ms q = farF l (out.drop c) q) ∧ Hid (Blk wr w1.heap.size (ms.map (Value.int .i64)).toArray 3) ∧ Hid (Blk wr w.heap.size #[.int .i64 z, .slice a n cap] 24) ∧ Hid (Below w1.heap.size w1 wr)) (fun i _ => (intOf i + 1).toNat)
  case atStart => exact ⟨n, (n : Int) - 1, List.replicate n (0 : Int), Nat.le_refl _, rfl, by omega, ⟨by simp, fun q hq => by rw [List.drop_of_length_le (by rw [HOL.out]; exact Nat.le_refl _)]; simp [el, hq, farF]⟩, by (show Blk _ _ _ _); rw [show (List.map (Value.int .i64) (List.replicate n 0)).toArray = Array.replicate n (Value.int .i64 0) from by simp]; exact Blk.made _ _ _, K0.out.alloc _, (Below.refl _ _).alloc (Nat.le_refl _) _⟩
  case round =>
    obtain ⟨c, x, ms, hc, rfl, hx, hms, hblk, hbx, hb⟩ := hrel
    have z1 : w.heap.size < w1.heap.size := s1
    cases c with
    | succ c =>
      obtain rfl : x = (c : Int) := by omega
      have hcl : c < out.length := by rw [HOL.out]; omega
      obtain ⟨gk, ok, rfl, hgkl, kc0⟩ := HCO.out c hcl
      obtain ⟨q, hq, hqn⟩ := HO.out.1.mem (el_mem hcl)
      rw [HN.out] at hqn
      rw [hq] at kc0
      have HCD : Hid (∀ p, farF l (out.drop c) p = if p = q then maxF (farF l (out.drop (c + 1))) (baseD (el l p).1) (el l p).2 else farF l (out.drop (c + 1)) p) := fun p => far_drop l hcl hq p
      obtain ⟨b, off, va, rfl, hbl, g0, g1, gA⟩ := HC.out q hqn
      have hBo : Below w.heap.size w wr := HB1.out.trans (hb.out.mono HB1.out.size)
      have GA := gA.later hBo (Nat.le_refl _)
      have kc1 := (hb.out.cell (p := ⟨gk, ok + c, none⟩) hgkl).trans kc0
      have HS : HeldCt w.heap.size gk ok b off n cap c q (el l q).1 va wr.drew := ⟨hbx.out.cell 1 rfl, kc1, (hBo.cell (p := ⟨b, off + q * 2, none⟩) hbl).trans g0, (hBo.cell (p := ⟨b, off + q * 2 + 1, none⟩) hbl).trans g1⟩
      have hL32 := HLK.out q hqn
      have HTQ : Hid (∀ c ∈ (el l q).2, ∃ t : Nat, c.2.2.2 = (t : Int) ∧ t < n) := HTO.out q hqn
      obtain ⟨va0, vc0, hva, hgc⟩ := GA.get
      have HGC : Hid (∀ j, j < (el l q).2.length → ∃ b off, va0 = some ⟨b, off, none⟩ ∧ b < wr.heap.size ∧ wr.cell? ⟨b, off + j * 4, none⟩ = some (.int .i64 (el (el l q).2 j).1) ∧ wr.cell? ⟨b, off + j * 4 + 1, none⟩ = some (.int .i64 (el (el l q).2 j).2.1) ∧ wr.cell? ⟨b, off + j * 4 + 2, none⟩ = some (.int .i64 (el (el l q).2 j).2.2.1) ∧ wr.cell? ⟨b, off + j * 4 + 3, none⟩ = some (.int .i64 (el (el l q).2 j).2.2.2)) := hgc
      subst hva
      have HQ1 : Hid (farF l (out.drop c) q = maxF (farF l (out.drop (c + 1))) (baseD (el l q).1) (el l q).2) := by show _ = _; rw [HCD.out q, if_pos rfl]
      have HQ2 : Hid (∀ p, p ≠ q → farF l (out.drop c) p = farF l (out.drop (c + 1)) p) := fun p hp => by rw [HCD.out p, if_neg hp]
      clear gA g0 g1 hgc GA hq HCD
      generalize (el l q).1 = f at *
      generalize (el l q).2 = ar at *
      generalize hL : ar.length = L at *
      have HL : Hid (ar.length = L) := hL
      clear hL
      have hi0' : (0 : Int) ≤ (c : Int) := by omega
      have hi1' : (c : Int) < (n : Int) := by omega
      have hx0' : (0 : Int) ≤ (q : Int) := by omega
      have hx1' : (q : Int) < (n : Int) := by omega
      have k6 : IntKind.i64.wrap ((c : Int) - 1) = (c : Int) - 1 := wrapI (by omega) (by omega)
      have HSA : HeldCt w.heap.size gk ok b off n cap c q f (.slice va0 L vc0) (wr.drew.alloc (.cells #[.int .i64 0, .slice none 0 0] 43)) := HS.alloc _
      obtain ⟨wo, hwo⟩ : ∃ wo, wo = wr := ⟨wr, rfl⟩
      subst hwo
      go_wp2
      refine region_anyL (HeldCt w.heap.size gk ok b off n cap c q f (.slice va0 L vc0)) 9 (by kernel_rfl) ?_
      refine anyL_take (i := 0) (v := ?v0_25) at0 (by kernel_rfl) (by kernel_rfl) (by kernel_rfl) (by kernel_rfl) (fun _ _ _ h => h) rfl ?y0_25 HS ?r0_25
      case y0_25 => intro wx hx; obtain ⟨h1, h2, h3, h4⟩ := hx; go_simp; try (with_reducible rfl)
      simp only [Act.put, List.setIfInBounds_toArray, List.set_cons_zero, List.set_cons_succ]
      refine anyL_take (i := 1) (v := ?v1_26) (atS at0) (by kernel_rfl) (by kernel_rfl) (by kernel_rfl) (by kernel_rfl) (fun _ _ _ h => h) rfl ?y1_26 HS ?r1_26
      case y1_26 => intro wx hx; obtain ⟨h1, h2, h3, h4⟩ := hx; go_simp; try (with_reducible rfl)
      simp only [Act.put, List.setIfInBounds_toArray, List.set_cons_zero, List.set_cons_succ]
      refine anyL_take (i := 2) (v := ?v2_27) (atS (atS at0)) (by kernel_rfl) (by kernel_rfl) (by kernel_rfl) (by kernel_rfl) (fun _ _ _ h => h) rfl ?y2_27 HS ?r2_27
      case y2_27 => intro wx hx; obtain ⟨h1, h2, h3, h4⟩ := hx; go_simp; try (with_reducible rfl)
      simp only [Act.put, List.setIfInBounds_toArray, List.set_cons_zero, List.set_cons_succ]
      refine anyL_take (i := 3) (v := ?v3_28) (atS (atS (atS at0))) (by kernel_rfl) (by kernel_rfl) (by kernel_rfl) (by kernel_rfl) (fun _ _ _ h => h) rfl ?y3_28 HS ?r3_28
      case y3_28 => intro wx hx; obtain ⟨h1, h2, h3, h4⟩ := hx; go_simp; try (with_reducible rfl)
      simp only [Act.put, List.setIfInBounds_toArray, List.set_cons_zero, List.set_cons_succ]
      refine anyL_take (i := 4) (v := ?v4_29) (atS (atS (atS (atS at0)))) (by kernel_rfl) (by kernel_rfl) (by kernel_rfl) (by kernel_rfl) (fun _ _ _ h => h) rfl ?y4_29 HS ?r4_29
      case y4_29 => intro wx hx; obtain ⟨h1, h2, h3, h4⟩ := hx; go_simp; try (with_reducible rfl)
      simp only [Act.put, List.setIfInBounds_toArray, List.set_cons_zero, List.set_cons_succ]
      refine anyL_take (i := 5) (v := ?v5_30) (atS (atS (atS (atS (atS at0))))) (by kernel_rfl) (by kernel_rfl) (by kernel_rfl) (by kernel_rfl) (fun _ _ _ h => h) rfl ?y5_30 HS ?r5_30
      case y5_30 => intro wx hx; obtain ⟨h1, h2, h3, h4⟩ := hx; go_simp; try (with_reducible rfl)
      simp only [Act.put, List.setIfInBounds_toArray, List.set_cons_zero, List.set_cons_succ]
      refine anyL_take (i := 6) (v := ?v6_31) (atS (atS (atS (atS (atS (atS at0)))))) (by kernel_rfl) (by kernel_rfl) (by kernel_rfl) (by kernel_rfl) (fun _ _ _ h => h) rfl ?y6_31 HS ?r6_31
      case y6_31 => intro wx hx; obtain ⟨h1, h2, h3, h4⟩ := hx; go_simp; try (with_reducible rfl)
      simp only [Act.put, List.setIfInBounds_toArray, List.set_cons_zero, List.set_cons_succ]
      refine anyL_take (i := 7) (v := ?v7_32) (atS (atS (atS (atS (atS (atS (atS at0))))))) (by kernel_rfl) (by kernel_rfl) (by kernel_rfl) (by kernel_rfl) (fun _ _ _ h => h) rfl ?y7_32 HS ?r7_32
      case y7_32 => intro wx hx; obtain ⟨h1, h2, h3, h4⟩ := hx; go_simp; try (with_reducible rfl)
      simp only [Act.put, List.setIfInBounds_toArray, List.set_cons_zero, List.set_cons_succ]
      refine anyL_one (i := 8) (atS (atS (atS (atS (atS (atS (atS (atS at0)))))))) (by kernel_rfl) rfl (fun K hK => ?_)
      go_simp
      refine hK _ _ (.inr HSA) ?_
      try simp only [Act.put, List.setIfInBounds_toArray, List.set_cons_zero, List.set_cons_succ]
      refine anyL_one (i := 9) (atS (atS (atS (atS (atS (atS (atS (atS (atS at0))))))))) (by kernel_rfl) rfl (fun K hK => ?_)
      go_simp
      refine hK _ _ (.inl rfl) (anyL_done (by kernel_rfl) (NoPanic.normal ?_))
      try simp only [Act.put, List.setIfInBounds_toArray, List.set_cons_zero, List.set_cons_succ]
      clear HS HSA
      have S0 : Hid (Blk (wo.drew.alloc (.cells #[.int .i64 f, .slice va0 L vc0] 43)) wo.heap.size #[.int .i64 f, .slice va0 L vc0] 43) := Blk.made wo.drew _ _
      have BO : Hid (Below wo.heap.size wo (wo.drew.alloc (.cells #[.int .i64 f, .slice va0 L vc0] 43))) := (Below.refl wo.heap.size wo).drew.alloc (Nat.le_refl _) _
      have y0 : w1.heap.size < wo.heap.size := hblk.out.lt
      have HMS : Hid (ms.length = n) := hms.out.1
      have HMC : Hid (∀ t, t < n → wo.cell? ⟨w1.heap.size, t, none⟩ = some (.int .i64 (farF l (out.drop (c + 1)) t))) := fun t ht => by rw [num_cell hblk.out (by rw [HMS.out]; exact ht), hms.out.2 t ht]
      have HBD : Hid (∀ t, -1 ≤ farF l (out.drop (c + 1)) t ∧ farF l (out.drop (c + 1)) t ≤ 60) := fun t => by have h9 := far_bd l (out.drop (c + 1)) t; rw [List.length_drop, HOL.out] at h9; omega
      generalize farF l (out.drop (c + 1)) = F at *
      have hbe : -1 ≤ baseD f ∧ baseD f ≤ 0 := by unfold baseD; split <;> omega
      go_upto_if 41 with fail
      go_cut [9] (fun s9 wx => s9 = .int .i64 (baseD f) ∧ Hid (Blk wx wo.heap.size #[.int .i64 f, .slice va0 L vc0] 43) ∧ Hid (Below wo.heap.size wo wx))
      case first =>
        by_cases hf : f = 1000000001
        · have HB0 : Hid (baseD f = -1) := by show _ = _; unfold baseD; rw [if_pos hf]
          subst hf
          go_wp2
          go_meet
          case rel => exact ⟨by rw [HB0.out], S0, BO⟩
        · have HB0 : Hid (baseD f = 0) := by show _ = _; unfold baseD; rw [if_neg hf]
          have hfb : (f != 1000000001) = true := by simpa using hf
          go_wp2
          go_meet
          case rel => exact ⟨by rw [HB0.out], S0, BO⟩
      case rest =>
        obtain ⟨rfl, S0, BO⟩ := hcut
        go_wp2
        go_loopw [9, 10] (fun s9 i wr => ∃ (j : Nat), j ≤ L ∧ s9 = .int .i64 (maxF F (baseD f) (ar.take j)) ∧ i = .int .i64 j ∧ Hid (Blk wr wo.heap.size #[.int .i64 f, .slice va0 L vc0] 43) ∧ Hid (Below wo.heap.size wo wr)) (fun _ i _ => L - (intOf i).toNat)
        case atStart => exact ⟨0, Nat.zero_le _, rfl, rfl, S0, BO⟩
        case round =>
          obtain ⟨j, hj, rfl, rfl, hsb, hbi⟩ := hrel
          have u1 := hsb.out.cell 1 (v := .slice va0 L vc0) rfl
          by_cases hjL : j < L
          · obtain ⟨b3, off3, rfl, hb3l, e0, e1, e2, e3⟩ := HGC.out j hjL
            have e3 := (hbi.out.cell (p := ⟨b3, off3 + j * 4 + 3, none⟩) hb3l).trans e3
            obtain ⟨t, ht, htn⟩ := HTQ.out _ (el_mem (l := ar) (j := j) (by rw [HL.out]; exact hjL))
            have HT := maxF_take F (baseD f) (ar := ar) (j := j) (by rw [HL.out]; exact hjL)
            rw [ht] at e3 HT
            rw [Int.toNat_natCast] at HT
            have m0 := (hbi.out.cell (p := ⟨w1.heap.size, t, none⟩) y0).trans (HMC.out t htn)
            have hc1 := maxF_bd (k := 60) HBD.out (ar.take j) (n := baseD f) (by omega)
            have hc2 := HBD.out t
            clear ht e0 e1 e2
            generalize maxF F (baseD f) (ar.take j) = A at *
            generalize F t = Bt at *
            have hj0 : (0 : Int) ≤ (j : Int) := by omega
            have hj1 : (j : Int) < (L : Int) := by omega
            have ht0 : (0 : Int) ≤ (t : Int) := by omega
            have ht1 : (t : Int) < (n : Int) := by omega
            have k7 : IntKind.i64.wrap (Bt + 1) = Bt + 1 := wrapI (by omega) (by omega)
            by_cases hov : 0 ≤ Bt
            · by_cases hov2 : A < Bt + 1
              · have HA : Hid (maxF F (baseD f) (ar.take (j + 1)) = Bt + 1) := by show _ = _; rw [HT]; unfold stepD; rw [if_pos ⟨hov, hov2⟩]
                clear HT
                go_wp2
                go_roundw
                case rel => exact ⟨j + 1, by omega, by rw [HA.out], by go_num, hsb, hbi⟩
                case measure => simp [intOf]; omega
              · have HA : Hid (maxF F (baseD f) (ar.take (j + 1)) = A) := by show _ = _; rw [HT]; unfold stepD; rw [if_neg (fun h9 => hov2 h9.2)]
                clear HT
                go_wp2
                go_roundw
                case rel => exact ⟨j + 1, by omega, by rw [HA.out], by go_num, hsb, hbi⟩
                case measure => simp [intOf]; omega
            · have HA : Hid (maxF F (baseD f) (ar.take (j + 1)) = A) := by show _ = _; rw [HT]; unfold stepD; rw [if_neg (fun h9 => hov h9.1)]
              clear HT
              go_wp2
              go_roundw
              case rel => exact ⟨j + 1, by omega, by rw [HA.out], by go_num, hsb, hbi⟩
              case measure => simp [intOf]; omega
          · have hnl9 : ¬ (j : Int) < (L : Int) := by omega
            have HJ : Hid (maxF F (baseD f) (ar.take j) = farF l (out.drop c) q) := by show _ = _; rw [show j = ar.length by rw [HL.out]; omega, List.take_length, HQ1.out]
            rw [HJ.out]
            have hblk2 := hblk.out.below hbi.out y0
            have kc2 := (hbi.out.cell (p := ⟨gk, ok + c, none⟩) (Nat.lt_of_lt_of_le hgkl hb.out.size)).trans kc1
            have v0 := num_cell hblk2 (j := q) (by rw [HMS.out]; exact hqn)
            have v1 := hblk2.fz q
            have HM2 : Hid ((ms.set q (farF l (out.drop c) q)).length = n ∧ ∀ p, p < n → el (ms.set q (farF l (out.drop c) q)) p = farF l (out.drop c) p) := by
              refine ⟨by simpa using HMS.out, fun p hp => ?_⟩
              rw [el_setN (by rw [HMS.out]; exact hqn)]
              by_cases e : p = q
              · subst e; rw [if_pos rfl]
              · rw [if_neg e, hms.out.2 p hp, HQ2.out p e]
            generalize farF l (out.drop c) q = Z at *
            have HBLK : Hid (Blk (wr.setCell ⟨w1.heap.size, q, none⟩ (.int .i64 Z)) w1.heap.size ((ms.set q Z).map (Value.int .i64)).toArray 3) := by have h9 := hblk2.set q (.int .i64 Z); rw [set_num] at h9; exact h9
            have HBX : Hid (Blk (wr.setCell ⟨w1.heap.size, q, none⟩ (.int .i64 Z)) w.heap.size #[.int .i64 z, .slice (some ⟨b, off, none⟩) n cap] 24) := (hbx.out.below hbi.out (by omega)).setO _ _ (by show w.heap.size ≠ w1.heap.size; omega)
            have HBF : Hid (Below w1.heap.size w1 (wr.setCell ⟨w1.heap.size, q, none⟩ (.int .i64 Z))) := (hb.out.trans (hbi.out.mono hb.out.size)).setCell (Nat.le_refl _) _
            clear hms hblk hbx hb hblk2
            go_wp2
            go_roundw
            case rel => exact ⟨c, (c : Int) - 1, _, by omega, rfl, by omega, HM2, HBLK, HBX, HBF⟩
            case measure => simp [intOf]
    | zero =>
      obtain rfl : x = -1 := by omega
      have x0 := hbx.out.cell 0 (v := .int .i64 z) rfl
      have HBF : Hid (Below w.heap.size w wr) := HB1.out.trans (hb.out.mono HB1.out.size)
      by_cases hz : z < 0
      · have HA : Hid (farA z (farF l out z.toNat) = (0, 12)) := by show _ = _; unfold farA; rw [if_pos (.inl hz)]
        clear hms hblk hbx hb
        go_wp2
        exact bodyPost_ret (v := .tuple #[.int .i64 0, .int .i64 12]) (by simp [results, Try.results16, go_sem]) rfl ⟨0, 12, rfl, ⟨out, HO.out, HA.out⟩, HBF.out⟩
      · obtain ⟨zn, hzn⟩ : ∃ zn : Nat, z = (zn : Int) := ⟨z.toNat, by omega⟩
        subst hzn
        have hzn' : zn < n := by omega
        have hz0 : (0 : Int) ≤ (zn : Int) := by omega
        have y0 := num_cell hblk.out (j := zn) (by rw [hms.out.1]; exact hzn')
        rw [hms.out.2 zn hzn', List.drop_zero] at y0
        by_cases hov : farF l out zn < 0
        · have HA : Hid (farA (zn : Int) (farF l out ((zn : Int)).toNat) = (0, 12)) := by show _ = _; unfold farA; rw [Int.toNat_natCast, if_pos (.inr hov)]
          clear hms hblk hbx hb
          generalize farF l out zn = Z at *
          go_wp2
          exact bodyPost_ret (v := .tuple #[.int .i64 0, .int .i64 12]) (by simp [results, Try.results16, go_sem]) rfl ⟨0, 12, rfl, ⟨out, HO.out, HA.out⟩, HBF.out⟩
        · have HA : Hid (farA (zn : Int) (farF l out ((zn : Int)).toNat) = (farF l out zn, 0)) := by show _ = _; unfold farA; rw [Int.toNat_natCast, if_neg (fun h9 => by rcases h9 with h9 | h9; exact hz h9; exact hov h9)]
          clear hms hblk hbx hb
          generalize hZ : farF l out zn = Z at *
          go_wp2
          exact bodyPost_ret (v := .tuple #[.int .i64 Z, .int .i64 0]) (by simp [results, Try.results16, go_sem]) rfl ⟨Z, 0, rfl, ⟨out, HO.out, HA.out⟩, HBF.out⟩
set_option maxRecDepth 100000 in
theorem longestOf_stop (v : Value) (m : Mc) (w : World) (h : Mach w v m) (hok : okM m) (r : Int) (h0 : ¬ r = 0) (hO : ∀ W, Mach W v m → Calls Try.prog 10 #[v] W fun e w' => e = .returned (.tuple #[.slice none 0 0, .int .i64 r]) ∧ Below W.heap.size W w') :
    Calls Try.prog 16 #[v] w fun e w' => e = .returned (.tuple #[.int .i64 0, .int .i64 r]) ∧ Below w.heap.size w w' := by
  obtain ⟨z, l⟩ := m
  obtain ⟨vs, rfl, hS⟩ := h
  obtain ⟨a, cap, rfl⟩ := hS.sl
  have HM : Hid (Mach w (.agg #[.int .i64 z, .slice a l.length cap]) (z, l)) := ⟨_, rfl, hS⟩
  have HO : Hid (∀ W, Mach W (.agg #[.int .i64 z, .slice a l.length cap]) (z, l) → Calls Try.prog 10 #[.agg #[.int .i64 z, .slice a l.length cap]] W fun e w' => e = .returned (.tuple #[.slice none 0 0, .int .i64 r]) ∧ Below W.heap.size W w') := hO
  clear hS hok hO
  simp only
  have hne : (r != 0) = true := by simpa using h0
  generalize l.length = n at *
  go_enter Try.func16, Try.ntmps16
  go_wp2_with (first
    | (go_at_call 10; (with_reducible refine (HO.out _ (HM.out.later (B := w.heap.size) (by go_grown) (Nat.le_refl _))).mono ?_); rintro e w1 ⟨rfl, hb⟩; obtain ⟨s1, b1, hb1⟩ := boxed hb (by simp); have HB1 : Hid (Below w.heap.size w w1) := hb1; clear b1 hb1 hb))
  exact bodyPost_ret (v := .tuple #[.int .i64 0, .int .i64 r]) (by simp [results, Try.results16, go_sem]) rfl ⟨rfl, HB1.out⟩
end Go.Proofs.Ytbamaolknpffgaa.Wt
