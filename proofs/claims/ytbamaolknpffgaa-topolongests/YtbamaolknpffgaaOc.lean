/- The reference: how many paths there are. -/
import Derived.Test.YtbamaolknpffgaaOb
import Derived.Test.YtbamaolknpffgaaPlainOa
namespace Go.Proofs.Ytbamaolknpffgaa.Pl
theorem drop_one {out : List Int} {i : Nat} (h : i < out.length) : out.drop i = el out i :: out.drop (i + 1) := by rw [List.drop_eq_getElem_cons h, el_get h]
theorem cnt_drop (l : List St) {out : List Int} {i q : Nat} (h : i < out.length) (hq : el out i = (q : Int)) (p : Nat) : cntF l (out.drop i) p = if p = q then baseN (el l p).1 + sumF (cntF l (out.drop (i + 1))) (el l p).2 else cntF l (out.drop (i + 1)) p := by
  rw [drop_one h, hq]
  show (if p = ((q : Int)).toNat then _ else _) = _
  rw [Int.toNat_natCast]
theorem far_drop (l : List St) {out : List Int} {i q : Nat} (h : i < out.length) (hq : el out i = (q : Int)) (p : Nat) : farF l (out.drop i) p = if p = q then maxF (farF l (out.drop (i + 1))) (baseD (el l p).1) (el l p).2 else farF l (out.drop (i + 1)) p := by
  rw [drop_one h, hq]
  show (if p = ((q : Int)).toNat then _ else _) = _
  rw [Int.toNat_natCast]
end Go.Proofs.Ytbamaolknpffgaa.Pl
namespace Go.Proofs.Ytbamaolknpffgaa.Wt
open Go.ChangeShapes Go.WideShapes Go.ChangeAt Go.RowKit
open Go.Proofs.Ytbamaolknpffgaa.Pl
set_option linter.unusedVariables false
set_option linter.unusedSimpArgs false
/-- What is read when a state is taken. -/
def HeldCt (B gk ok b off n cap i x : Nat) (f : Int) (va : Value) (w : World) : Prop :=
  w.cell? ⟨B, 1, none⟩ = some (.slice (some ⟨b, off, none⟩) n cap) ∧ w.cell? ⟨gk, ok + i, none⟩ = some (.int .i64 (x : Int)) ∧ w.cell? ⟨b, off + x * 2, none⟩ = some (.int .i64 f) ∧ w.cell? ⟨b, off + x * 2 + 1, none⟩ = some va
theorem HeldCt.alloc {B gk ok b off n cap i x : Nat} {f : Int} {va : Value} {w : World} (h : HeldCt B gk ok b off n cap i x f va w) (o : Obj) : HeldCt B gk ok b off n cap i x f va (w.alloc o) := by
  obtain ⟨h1, h2, h3, h4⟩ := h
  have hb : Below w.heap.size w (w.alloc o) := (Below.refl _ _).alloc (Nat.le_refl _) o
  exact ⟨(hb.cell (World.block_lt_of_cell? _ _ h1)).trans h1, (hb.cell (World.block_lt_of_cell? _ _ h2)).trans h2, (hb.cell (World.block_lt_of_cell? _ _ h3)).trans h3, (hb.cell (World.block_lt_of_cell? _ _ h4)).trans h4⟩
set_option maxRecDepth 100000 in
set_option maxHeartbeats 6400000 in
theorem pathCount_fine (v : Value) (m : Mc) (w : World) (h : Mach w v m) (hok : okM m) (hr : faultM m = 0) (hcy : ¬ CycleL m.2) :
    Calls Try.prog 14 #[v] w fun e w' => ∃ (x ec : Int), e = .returned (.tuple #[.int .i64 x, .int .i64 ec]) ∧ (∃ out, OrderL m.2 out ∧ pathA m.1 (cntF m.2 out m.1.toNat) = (x, ec)) ∧ Below w.heap.size w w' := by
  obtain ⟨z, l⟩ := m
  obtain ⟨vs, rfl, hS⟩ := h
  obtain ⟨a, cap, rfl, hc⟩ := hS.get
  have HM : Hid (Mach w (.agg #[.int .i64 z, .slice a l.length cap]) (z, l)) := ⟨_, rfl, hS⟩
  have HK : Hid (okM (z, l)) := hok
  have HR : Hid (faultM (z, l) = 0) := hr
  have HCY : Hid (¬ CycleL l) := hcy
  have h60 := (right_size hr).1
  have HC : Hid (∀ j, j < l.length → ∃ b off va, a = some ⟨b, off, none⟩ ∧ b < w.heap.size ∧ w.cell? ⟨b, off + j * 2, none⟩ = some (.int .i64 (el l j).1) ∧ w.cell? ⟨b, off + j * 2 + 1, none⟩ = some va ∧ Arcs w va (el l j).2) := hc
  have HLK : Hid (∀ j, j < l.length → (el l j).2.length * 32 ≤ 140737488351232) := hok.2
  have HTO : Hid (∀ j, j < l.length → ∀ c ∈ (el l j).2, ∃ t : Nat, c.2.2.2 = (t : Int) ∧ t < l.length) := fun j hj c hc => by
    have h9 := List.all_eq_true.1 (right_st hr hj).2 c hc
    simp only [arcB, inB, Bool.and_eq_true, decide_eq_true_eq] at h9
    exact ⟨c.2.2.2.toNat, by omega, by omega⟩
  have hzr := (faultM_zero hr).2
  simp only [rangeB, Bool.and_eq_true, inB, decide_eq_true_eq] at hzr
  have hz1 : z < (l.length : Int) := by omega
  clear hS hc hok hr hcy hzr
  simp only
  generalize hn : l.length = n at *
  have HN : Hid (l.length = n) := hn
  clear hn
  have hmk := run_nums n (by omega)
  go_enter Try.func14, Try.ntmps14
  go_wp2_with (first
    | (go_at_call 10; (with_reducible refine (ordered_fine _ (z, l) _ (HM.out.later (B := w.heap.size) (by go_grown) (Nat.le_refl _)) HK.out HR.out HCY.out).mono ?_); rintro e w1 ⟨vo, rfl, ⟨out, hO, hNu⟩, hb⟩; obtain ⟨s1, b1, hb1⟩ := boxed hb (by simp); have HO : Hid (OrderL l out) := hO; have HOL : Hid (out.length = n) := hO.2.trans HN.out; obtain ⟨xo, co, hvo, hco⟩ := hNu.get; (replace hvo : vo = Value.slice xo n co := hvo.trans (by rw [show out.length = n from HOL.out])); subst hvo; have HCO : Hid (∀ j, j < out.length → ∃ b off, xo = some ⟨b, off, none⟩ ∧ b < w1.heap.size ∧ w1.cell? ⟨b, off + j, none⟩ = some (.int .i64 (el out j))) := hco; have K0 : Hid (Blk w1 w.heap.size #[.int .i64 z, .slice a n cap] 24) := b1; have c1 := b1.cell 1 (v := .slice a n cap) rfl; have HB1 : Hid (Below w.heap.size w w1) := hb1; have k5 : IntKind.i64.wrap ((n : Int) - 1) = (n : Int) - 1 := wrapI (by omega) (by omega); clear b1 hb1 hb hO hNu hco))
  clear c1
  go_loopw [7] (fun i wr => ∃ (c : Nat) (x : Int) (ms : List Int), c ≤ n ∧ i = .int .i64 x ∧ x + 1 = (c : Int) ∧ Hid (ms.length = n ∧ ∀ q, q < n → el ms q = (capN (cntF l (out.drop c) q) : Int)) ∧ Hid (Blk wr w1.heap.size (ms.map (Value.int .i64)).toArray 3) ∧ Hid (Blk wr w.heap.size #[.int .i64 z, .slice a n cap] 24) ∧ Hid (Below w1.heap.size w1 wr)) (fun i _ => (intOf i + 1).toNat)
  case atStart => exact ⟨n, (n : Int) - 1, List.replicate n (0 : Int), Nat.le_refl _, rfl, by omega, ⟨by simp, fun q hq => by rw [List.drop_of_length_le (by rw [HOL.out]; exact Nat.le_refl _)]; simp [el, hq, cntF, capN]⟩, by (show Blk _ _ _ _); rw [show (List.map (Value.int .i64) (List.replicate n 0)).toArray = Array.replicate n (Value.int .i64 0) from by simp]; exact Blk.made _ _ _, K0.out.alloc _, (Below.refl _ _).alloc (Nat.le_refl _) _⟩
  case round =>
    obtain ⟨c, x, ms, hc, rfl, hx, hms, hblk, hbx, hb⟩ := hrel
    have z1 : w.heap.size < w1.heap.size := s1
    cases c with
    | succ c =>
      obtain rfl : x = (c : Int) := by omega
      have hcl : c < out.length := by rw [HOL.out]; omega
      obtain ⟨gk, ok, rfl, hgkl, kc0⟩ := HCO.out c hcl
      obtain ⟨q, hq, hqn⟩ := HO.out.1.mem (el_mem hcl)
      rw [HN.out] at hqn
      rw [hq] at kc0
      have HCD : Hid (∀ p, cntF l (out.drop c) p = if p = q then baseN (el l p).1 + sumF (cntF l (out.drop (c + 1))) (el l p).2 else cntF l (out.drop (c + 1)) p) := fun p => cnt_drop l hcl hq p
      obtain ⟨b, off, va, rfl, hbl, g0, g1, gA⟩ := HC.out q hqn
      have hBo : Below w.heap.size w wr := HB1.out.trans (hb.out.mono HB1.out.size)
      have GA := gA.later hBo (Nat.le_refl _)
      have kc1 := (hb.out.cell (p := ⟨gk, ok + c, none⟩) hgkl).trans kc0
      have HS : HeldCt w.heap.size gk ok b off n cap c q (el l q).1 va wr.drew := ⟨hbx.out.cell 1 rfl, kc1, (hBo.cell (p := ⟨b, off + q * 2, none⟩) hbl).trans g0, (hBo.cell (p := ⟨b, off + q * 2 + 1, none⟩) hbl).trans g1⟩
      have hL32 := HLK.out q hqn
      have HTQ : Hid (∀ c ∈ (el l q).2, ∃ t : Nat, c.2.2.2 = (t : Int) ∧ t < n) := HTO.out q hqn
      obtain ⟨va0, vc0, hva, hgc⟩ := GA.get
      have HGC : Hid (∀ j, j < (el l q).2.length → ∃ b off, va0 = some ⟨b, off, none⟩ ∧ b < wr.heap.size ∧ wr.cell? ⟨b, off + j * 4, none⟩ = some (.int .i64 (el (el l q).2 j).1) ∧ wr.cell? ⟨b, off + j * 4 + 1, none⟩ = some (.int .i64 (el (el l q).2 j).2.1) ∧ wr.cell? ⟨b, off + j * 4 + 2, none⟩ = some (.int .i64 (el (el l q).2 j).2.2.1) ∧ wr.cell? ⟨b, off + j * 4 + 3, none⟩ = some (.int .i64 (el (el l q).2 j).2.2.2)) := hgc
      subst hva
      have HQ1 : Hid (cntF l (out.drop c) q = baseN (el l q).1 + sumF (cntF l (out.drop (c + 1))) (el l q).2) := by show _ = _; rw [HCD.out q, if_pos rfl]
      have HQ2 : Hid (∀ p, p ≠ q → cntF l (out.drop c) p = cntF l (out.drop (c + 1)) p) := fun p hp => by rw [HCD.out p, if_neg hp]
      clear gA g0 g1 hgc GA hq HCD
      generalize (el l q).1 = f at *
      generalize (el l q).2 = ar at *
      generalize hL : ar.length = L at *
      have HL : Hid (ar.length = L) := hL
      clear hL
      have hi0' : (0 : Int) ≤ (c : Int) := by omega
      have hi1' : (c : Int) < (n : Int) := by omega
      have hx0' : (0 : Int) ≤ (q : Int) := by omega
      have hx1' : (q : Int) < (n : Int) := by omega
      have k6 : IntKind.i64.wrap ((c : Int) - 1) = (c : Int) - 1 := wrapI (by omega) (by omega)
      have HSA : HeldCt w.heap.size gk ok b off n cap c q f (.slice va0 L vc0) (wr.drew.alloc (.cells #[.int .i64 0, .slice none 0 0] 43)) := HS.alloc _
      obtain ⟨wo, hwo⟩ : ∃ wo, wo = wr := ⟨wr, rfl⟩
      subst hwo
      go_wp2
      refine region_anyL (HeldCt w.heap.size gk ok b off n cap c q f (.slice va0 L vc0)) 9 (by kernel_rfl) ?_
      refine anyL_take (i := 0) (v := ?v0_17) at0 (by kernel_rfl) (by kernel_rfl) (by kernel_rfl) (by kernel_rfl) (fun _ _ _ h => h) rfl ?y0_17 HS ?r0_17
      case y0_17 => intro wx hx; obtain ⟨h1, h2, h3, h4⟩ := hx; go_simp; try (with_reducible rfl)
      simp only [Act.put, List.setIfInBounds_toArray, List.set_cons_zero, List.set_cons_succ]
      refine anyL_take (i := 1) (v := ?v1_18) (atS at0) (by kernel_rfl) (by kernel_rfl) (by kernel_rfl) (by kernel_rfl) (fun _ _ _ h => h) rfl ?y1_18 HS ?r1_18
      case y1_18 => intro wx hx; obtain ⟨h1, h2, h3, h4⟩ := hx; go_simp; try (with_reducible rfl)
      simp only [Act.put, List.setIfInBounds_toArray, List.set_cons_zero, List.set_cons_succ]
      refine anyL_take (i := 2) (v := ?v2_19) (atS (atS at0)) (by kernel_rfl) (by kernel_rfl) (by kernel_rfl) (by kernel_rfl) (fun _ _ _ h => h) rfl ?y2_19 HS ?r2_19
      case y2_19 => intro wx hx; obtain ⟨h1, h2, h3, h4⟩ := hx; go_simp; try (with_reducible rfl)
      simp only [Act.put, List.setIfInBounds_toArray, List.set_cons_zero, List.set_cons_succ]
      refine anyL_take (i := 3) (v := ?v3_20) (atS (atS (atS at0))) (by kernel_rfl) (by kernel_rfl) (by kernel_rfl) (by kernel_rfl) (fun _ _ _ h => h) rfl ?y3_20 HS ?r3_20
      case y3_20 => intro wx hx; obtain ⟨h1, h2, h3, h4⟩ := hx; go_simp; try (with_reducible rfl)
      simp only [Act.put, List.setIfInBounds_toArray, List.set_cons_zero, List.set_cons_succ]
      refine anyL_take (i := 4) (v := ?v4_21) (atS (atS (atS (atS at0)))) (by kernel_rfl) (by kernel_rfl) (by kernel_rfl) (by kernel_rfl) (fun _ _ _ h => h) rfl ?y4_21 HS ?r4_21
      case y4_21 => intro wx hx; obtain ⟨h1, h2, h3, h4⟩ := hx; go_simp; try (with_reducible rfl)
      simp only [Act.put, List.setIfInBounds_toArray, List.set_cons_zero, List.set_cons_succ]
      refine anyL_take (i := 5) (v := ?v5_22) (atS (atS (atS (atS (atS at0))))) (by kernel_rfl) (by kernel_rfl) (by kernel_rfl) (by kernel_rfl) (fun _ _ _ h => h) rfl ?y5_22 HS ?r5_22
      case y5_22 => intro wx hx; obtain ⟨h1, h2, h3, h4⟩ := hx; go_simp; try (with_reducible rfl)
      simp only [Act.put, List.setIfInBounds_toArray, List.set_cons_zero, List.set_cons_succ]
      refine anyL_take (i := 6) (v := ?v6_23) (atS (atS (atS (atS (atS (atS at0)))))) (by kernel_rfl) (by kernel_rfl) (by kernel_rfl) (by kernel_rfl) (fun _ _ _ h => h) rfl ?y6_23 HS ?r6_23
      case y6_23 => intro wx hx; obtain ⟨h1, h2, h3, h4⟩ := hx; go_simp; try (with_reducible rfl)
      simp only [Act.put, List.setIfInBounds_toArray, List.set_cons_zero, List.set_cons_succ]
      refine anyL_take (i := 7) (v := ?v7_24) (atS (atS (atS (atS (atS (atS (atS at0))))))) (by kernel_rfl) (by kernel_rfl) (by kernel_rfl) (by kernel_rfl) (fun _ _ _ h => h) rfl ?y7_24 HS ?r7_24
      case y7_24 => intro wx hx; obtain ⟨h1, h2, h3, h4⟩ := hx; go_simp; try (with_reducible rfl)
      simp only [Act.put, List.setIfInBounds_toArray, List.set_cons_zero, List.set_cons_succ]
      refine anyL_one (i := 8) (atS (atS (atS (atS (atS (atS (atS (atS at0)))))))) (by kernel_rfl) rfl (fun K hK => ?_)
      go_simp
      refine hK _ _ (.inr HSA) ?_
      try simp only [Act.put, List.setIfInBounds_toArray, List.set_cons_zero, List.set_cons_succ]
      refine anyL_one (i := 9) (atS (atS (atS (atS (atS (atS (atS (atS (atS at0))))))))) (by kernel_rfl) rfl (fun K hK => ?_)
      go_simp
      refine hK _ _ (.inl rfl) (anyL_done (by kernel_rfl) (NoPanic.normal ?_))
      try simp only [Act.put, List.setIfInBounds_toArray, List.set_cons_zero, List.set_cons_succ]
      clear HS HSA
      have S0 : Hid (Blk (wo.drew.alloc (.cells #[.int .i64 f, .slice va0 L vc0] 43)) wo.heap.size #[.int .i64 f, .slice va0 L vc0] 43) := Blk.made wo.drew _ _
      have BO : Hid (Below wo.heap.size wo (wo.drew.alloc (.cells #[.int .i64 f, .slice va0 L vc0] 43))) := (Below.refl wo.heap.size wo).drew.alloc (Nat.le_refl _) _
      have y0 : w1.heap.size < wo.heap.size := hblk.out.lt
      have HMS : Hid (ms.length = n) := hms.out.1
      have HMC : Hid (∀ t, t < n → wo.cell? ⟨w1.heap.size, t, none⟩ = some (.int .i64 (capN (cntF l (out.drop (c + 1)) t) : Int))) := fun t ht => by rw [num_cell hblk.out (by rw [HMS.out]; exact ht), hms.out.2 t ht]
      generalize cntF l (out.drop (c + 1)) = F at *
      have hbe : baseN f ≤ 1 := by unfold baseN; split <;> omega
      go_upto_if 40 with fail
      go_cut [9] (fun s9 wx => s9 = .int .i64 ((baseN f : Nat) : Int) ∧ Hid (Blk wx wo.heap.size #[.int .i64 f, .slice va0 L vc0] 43) ∧ Hid (Below wo.heap.size wo wx))
      case first =>
        by_cases hf : f = 1000000001
        · have HB0 : Hid (baseN f = 0) := by show _ = _; unfold baseN; rw [if_pos hf]
          subst hf
          go_wp2
          go_meet
          case rel => exact ⟨by rw [HB0.out]; rfl, S0, BO⟩
        · have HB0 : Hid (baseN f = 1) := by show _ = _; unfold baseN; rw [if_neg hf]
          have hfb : (f != 1000000001) = true := by simpa using hf
          go_wp2
          go_meet
          case rel => exact ⟨by rw [HB0.out]; rfl, S0, BO⟩
      case rest =>
        obtain ⟨rfl, S0, BO⟩ := hcut
        have HC0 : Hid (((baseN f : Nat) : Int) = ((capN (baseN f + sumF F (ar.take 0)) : Nat) : Int)) := by show _ = _; rw [List.take_zero, sumF, Nat.add_zero, capN_eq (by omega)]
        go_wp2
        go_loopw [9, 10] (fun s9 i wr => ∃ (j : Nat), j ≤ L ∧ s9 = .int .i64 ((capN (baseN f + sumF F (ar.take j)) : Nat) : Int) ∧ i = .int .i64 j ∧ Hid (Blk wr wo.heap.size #[.int .i64 f, .slice va0 L vc0] 43) ∧ Hid (Below wo.heap.size wo wr)) (fun _ i _ => L - (intOf i).toNat)
        case atStart => exact ⟨0, Nat.zero_le _, by rw [HC0.out], rfl, S0, BO⟩
        case round =>
          obtain ⟨j, hj, rfl, rfl, hsb, hbi⟩ := hrel
          have u1 := hsb.out.cell 1 (v := .slice va0 L vc0) rfl
          by_cases hjL : j < L
          · obtain ⟨b3, off3, rfl, hb3l, e0, e1, e2, e3⟩ := HGC.out j hjL
            have e3 := (hbi.out.cell (p := ⟨b3, off3 + j * 4 + 3, none⟩) hb3l).trans e3
            obtain ⟨t, ht, htn⟩ := HTQ.out _ (el_mem (l := ar) (j := j) (by rw [HL.out]; exact hjL))
            have HT := sumF_take F (ar := ar) (j := j) (by rw [HL.out]; exact hjL)
            rw [ht] at e3 HT
            rw [Int.toNat_natCast] at HT
            have m0 := (hbi.out.cell (p := ⟨w1.heap.size, t, none⟩) y0).trans (HMC.out t htn)
            have hA : capN (baseN f + sumF F (ar.take (j + 1))) = capN (capN (baseN f + sumF F (ar.take j)) + capN (F t)) := by rw [capN_add, HT, Nat.add_assoc]
            have hc1 := capN_le (baseN f + sumF F (ar.take j))
            have hc2 := capN_le (F t)
            clear HT ht e0 e1 e2
            generalize capN (baseN f + sumF F (ar.take j)) = A at *
            generalize capN (F t) = Bt at *
            have hj0 : (0 : Int) ≤ (j : Int) := by omega
            have hj1 : (j : Int) < (L : Int) := by omega
            have ht0 : (0 : Int) ≤ (t : Int) := by omega
            have ht1 : (t : Int) < (n : Int) := by omega
            by_cases hov : A + Bt ≤ 1000000001
            · have HA : Hid (capN (baseN f + sumF F (ar.take (j + 1))) = A + Bt) := by show _ = _; rw [hA]; unfold capN; rw [if_pos hov]
              have hov' : ¬ (1000000001 : Int) < (A : Int) + (Bt : Int) := by omega
              clear hA
              go_wp2
              go_roundw
              case rel => exact ⟨j + 1, by omega, by rw [HA.out]; go_num, by go_num, hsb, hbi⟩
              case measure => simp [intOf]; omega
            · have HA : Hid (capN (baseN f + sumF F (ar.take (j + 1))) = 1000000001) := by show _ = _; rw [hA]; unfold capN; rw [if_neg hov]
              have hov' : (1000000001 : Int) < (A : Int) + (Bt : Int) := by omega
              clear hA
              go_wp2
              go_roundw
              case rel => exact ⟨j + 1, by omega, by rw [HA.out]; rfl, by go_num, hsb, hbi⟩
              case measure => simp [intOf]; omega
          · have hnl9 : ¬ (j : Int) < (L : Int) := by omega
            have HJ : Hid (capN (baseN f + sumF F (ar.take j)) = capN (cntF l (out.drop c) q)) := by show _ = _; rw [show j = ar.length by rw [HL.out]; omega, List.take_length, HQ1.out]
            rw [HJ.out]
            have hblk2 := hblk.out.below hbi.out y0
            have kc2 := (hbi.out.cell (p := ⟨gk, ok + c, none⟩) (Nat.lt_of_lt_of_le hgkl hb.out.size)).trans kc1
            have v0 := num_cell hblk2 (j := q) (by rw [HMS.out]; exact hqn)
            have v1 := hblk2.fz q
            have HM2 : Hid ((ms.set q (capN (cntF l (out.drop c) q) : Int)).length = n ∧ ∀ p, p < n → el (ms.set q (capN (cntF l (out.drop c) q) : Int)) p = (capN (cntF l (out.drop c) p) : Int)) := by
              refine ⟨by simpa using HMS.out, fun p hp => ?_⟩
              rw [el_setN (by rw [HMS.out]; exact hqn)]
              by_cases e : p = q
              · subst e; rw [if_pos rfl]
              · rw [if_neg e, hms.out.2 p hp, HQ2.out p e]
            generalize capN (cntF l (out.drop c) q) = Z at *
            have HBLK : Hid (Blk (wr.setCell ⟨w1.heap.size, q, none⟩ (.int .i64 (Z : Int))) w1.heap.size ((ms.set q (Z : Int)).map (Value.int .i64)).toArray 3) := by have h9 := hblk2.set q (.int .i64 (Z : Int)); rw [set_num] at h9; exact h9
            have HBX : Hid (Blk (wr.setCell ⟨w1.heap.size, q, none⟩ (.int .i64 (Z : Int))) w.heap.size #[.int .i64 z, .slice (some ⟨b, off, none⟩) n cap] 24) := (hbx.out.below hbi.out (by omega)).setO _ _ (by show w.heap.size ≠ w1.heap.size; omega)
            have HBF : Hid (Below w1.heap.size w1 (wr.setCell ⟨w1.heap.size, q, none⟩ (.int .i64 (Z : Int)))) := (hb.out.trans (hbi.out.mono hb.out.size)).setCell (Nat.le_refl _) _
            clear hms hblk hbx hb hblk2
            go_wp2
            go_roundw
            case rel => exact ⟨c, (c : Int) - 1, _, by omega, rfl, by omega, HM2, HBLK, HBX, HBF⟩
            case measure => simp [intOf]
    | zero =>
      obtain rfl : x = -1 := by omega
      have x0 := hbx.out.cell 0 (v := .int .i64 z) rfl
      have HBF : Hid (Below w.heap.size w wr) := HB1.out.trans (hb.out.mono HB1.out.size)
      by_cases hz : z < 0
      · have HA : Hid (pathA z (cntF l out z.toNat) = (0, 0)) := by show _ = _; unfold pathA; rw [if_pos hz]
        clear hms hblk hbx hb
        go_wp2
        exact bodyPost_ret (v := .tuple #[.int .i64 0, .int .i64 0]) (by simp [results, Try.results14, go_sem]) rfl ⟨0, 0, rfl, ⟨out, HO.out, HA.out⟩, HBF.out⟩
      · obtain ⟨zn, hzn⟩ : ∃ zn : Nat, z = (zn : Int) := ⟨z.toNat, by omega⟩
        subst hzn
        have hzn' : zn < n := by omega
        have hz0 : (0 : Int) ≤ (zn : Int) := by omega
        have y0 := num_cell hblk.out (j := zn) (by rw [hms.out.1]; exact hzn')
        rw [hms.out.2 zn hzn', List.drop_zero] at y0
        have HPA : Hid (pathA (zn : Int) (cntF l out ((zn : Int)).toNat) = if 1000000000 < cntF l out zn then (0, 4) else ((cntF l out zn : Int), 0)) := by show _ = _; unfold pathA; rw [if_neg hz, Int.toNat_natCast]
        have hle := capN_le (cntF l out zn)
        by_cases hov : 1000000000 < cntF l out zn
        · have HA : Hid (pathA (zn : Int) (cntF l out ((zn : Int)).toNat) = (0, 4)) := by show _ = _; rw [HPA.out, if_pos hov]
          have h9 := capN_gt.2 hov
          have h8 : (1000000000 : Int) < (capN (cntF l out zn) : Int) := by omega
          clear hms hblk hbx hb HPA
          generalize capN (cntF l out zn) = Z at *
          go_wp2
          exact bodyPost_ret (v := .tuple #[.int .i64 0, .int .i64 4]) (by simp [results, Try.results14, go_sem]) rfl ⟨0, 4, rfl, ⟨out, HO.out, HA.out⟩, HBF.out⟩
        · have HA : Hid (pathA (zn : Int) (cntF l out ((zn : Int)).toNat) = ((cntF l out zn : Int), 0)) := by show _ = _; rw [HPA.out, if_neg hov]
          rw [capN_eq (by omega)] at y0 hle
          have h8 : ¬ (1000000000 : Int) < (cntF l out zn : Int) := by omega
          clear hms hblk hbx hb HPA
          generalize hZ : cntF l out zn = Z at *
          go_wp2
          exact bodyPost_ret (v := .tuple #[.int .i64 (Z : Int), .int .i64 0]) (by simp [results, Try.results14, go_sem]) rfl ⟨(Z : Int), 0, rfl, ⟨out, HO.out, HA.out⟩, HBF.out⟩
set_option maxRecDepth 100000 in
theorem pathCount_stop (v : Value) (m : Mc) (w : World) (h : Mach w v m) (hok : okM m) (r : Int) (h0 : ¬ r = 0) (hO : ∀ W, Mach W v m → Calls Try.prog 10 #[v] W fun e w' => e = .returned (.tuple #[.slice none 0 0, .int .i64 r]) ∧ Below W.heap.size W w') :
    Calls Try.prog 14 #[v] w fun e w' => e = .returned (.tuple #[.int .i64 0, .int .i64 r]) ∧ Below w.heap.size w w' := by
  obtain ⟨z, l⟩ := m
  obtain ⟨vs, rfl, hS⟩ := h
  obtain ⟨a, cap, rfl⟩ := hS.sl
  have HM : Hid (Mach w (.agg #[.int .i64 z, .slice a l.length cap]) (z, l)) := ⟨_, rfl, hS⟩
  have HO : Hid (∀ W, Mach W (.agg #[.int .i64 z, .slice a l.length cap]) (z, l) → Calls Try.prog 10 #[.agg #[.int .i64 z, .slice a l.length cap]] W fun e w' => e = .returned (.tuple #[.slice none 0 0, .int .i64 r]) ∧ Below W.heap.size W w') := hO
  clear hS hok hO
  simp only
  have hne : (r != 0) = true := by simpa using h0
  generalize l.length = n at *
  go_enter Try.func14, Try.ntmps14
  go_wp2_with (first
    | (go_at_call 10; (with_reducible refine (HO.out _ (HM.out.later (B := w.heap.size) (by go_grown) (Nat.le_refl _))).mono ?_); rintro e w1 ⟨rfl, hb⟩; obtain ⟨s1, b1, hb1⟩ := boxed hb (by simp); have HB1 : Hid (Below w.heap.size w w1) := hb1; clear b1 hb1 hb))
  exact bodyPost_ret (v := .tuple #[.int .i64 0, .int .i64 r]) (by simp [results, Try.results14, go_sem]) rfl ⟨rfl, HB1.out⟩
end Go.Proofs.Ytbamaolknpffgaa.Wt
