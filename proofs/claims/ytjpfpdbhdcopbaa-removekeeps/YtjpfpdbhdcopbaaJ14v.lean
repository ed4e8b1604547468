/- Whether the arcs of a state stand in order, by the program. Small questions on arcs and states, by the program. Pairs of labels counted in a map. What a machine is like: core.Bits. -/
import Derived.Test.YtjpfpdbhdcopbaaMcI
import Derived.Test.YtjpfpdbhdcopbaaJ14b
import Derived.Test.YtjpfpdbhdcopbaaPlainV
import Derived.Test.YtjpfpdbhdcopbaaRg
import Derived.Maps.Own
import Derived.Maps.OwnSet
import Derived.Maps.Views
import Derived.WideKeyEntry
import Derived.DeepKeys3
import Derived.RegionTactic
import Derived.BigRegion
import Derived.Test.YtjpfpdbhdcopbaaMcN
namespace Go.Proofs.Ytjpfpdbhdcopbaa.Wt
open Go.ChangeShapes Go.WideShapes Go.ChangeAt Go.RowKit
open Go.Proofs.Ytjpfpdbhdcopbaa.Pl
set_option linter.unusedVariables false
set_option linter.unusedSimpArgs false
theorem wrapK {n : Int} (h0 : -9223372036854775808 ≤ n) (h1 : n ≤ 9223372036854775807) : IntKind.i64.wrap n = n := by
  have h64 : IntKind.i64.wrap n = if n % 18446744073709551616 ≥ 9223372036854775808 then n % 18446744073709551616 - 18446744073709551616 else n % 18446744073709551616 := by
    simp [IntKind.wrap, IntKind.bits, IntKind.signed]
  rw [h64]
  split <;> omega
def cells4 (w : World) (b o : Nat) (a : Ar) : Prop := w.cell? ⟨b, o, none⟩ = some (.int .i64 a.1) ∧ w.cell? ⟨b, o + 1, none⟩ = some (.int .i64 a.2.1) ∧ w.cell? ⟨b, o + 2, none⟩ = some (.int .i64 a.2.2.1) ∧ w.cell? ⟨b, o + 3, none⟩ = some (.int .i64 a.2.2.2)
theorem cells4.later {w w' : World} {b o B : Nat} {a : Ar} (h : cells4 w b o a) (hb : Below B w w') (hB : b < B) : cells4 w' b o a := ⟨(hb.cell hB).trans h.1, (hb.cell hB).trans h.2.1, (hb.cell hB).trans h.2.2.1, (hb.cell hB).trans h.2.2.2⟩
theorem below_undrewJ {B : Nat} {w w' : World} (h : Below B w.drew w') : Below B w w' := ⟨h.os, h.tape, h.output, h.size, h.block⟩
def HeldJ (b off d : Nat) (x y : Ar) (w : World) : Prop := cells4 w b (off + (d + 1) * 4) x ∧ cells4 w b (off + d * 4) y
set_option maxRecDepth 100000 in
set_option maxHeartbeats 1000000 in
theorem isSorted_any (va : Value) (l : List Ar) (w : World) (h : Arcs w va l) (hl : l.length ≤ 4398046511104) (r : Bool) (hr : sortB l = r) :
    Calls Try.prog 59 #[va, .func (.func 60) #[] #[]] w fun e w' => e = .returned (.bool r) ∧ Below w.heap.size w w' := by
  obtain ⟨a, cap, rfl, hc⟩ := h.get
  have eg : ∀ ar W, (callFunc 60 ar).run Try.prog W = .ok (.enter 60 ar) W := enters_of Try.func60 (by kernel_rfl) rfl
  by_cases hz : 0 < l.length
  · have HC : Hid (∀ j, j < l.length → ∃ b off, a = some ⟨b, off, none⟩ ∧ b < w.heap.size ∧ cells4 w b (off + j * 4) (el l j)) := hc
    have HR : Hid (sortB l = r) := hr
    clear h hc hr
    generalize hn : l.length = n at *
    have HN : Hid (l.length = n) := hn
    clear hn
    have hn1 : (n : Int) - 1 = ((n - 1 : Nat) : Int) := by omega
    have hn0 : n - 1 < n := by omega
    go_enter Try.func59, Try.ntmps59
    go_wp2
    go_loopw [5] (fun i wr => ∃ c : Nat, c < n ∧ i = .int .i64 c ∧ Hid (∀ j, c ≤ j → j + 1 < n → aheadB (el l (j + 1)) (el l j) = false) ∧ Below w.heap.size w wr) (fun i _ => (intOf i).toNat)
    case atStart => exact ⟨n - 1, hn0, by rw [← hn1], (fun j h1 h2 => by omega), Below.refl _ _⟩
    case round =>
      obtain ⟨c, hcn, rfl, hok, hb⟩ := hrel
      by_cases hc0 : 0 < c
      · obtain ⟨d, rfl⟩ : ∃ d, c = d + 1 := ⟨c - 1, by omega⟩
        obtain ⟨b, off, rfl, hbl, g1⟩ := HC.out (d + 1) hcn
        obtain ⟨b2, off2, he, _, g2⟩ := HC.out d (by omega)
        injection he with he
        injection he with he1 he2 _
        subst he1 he2
        have HS : Hid (HeldJ b off d (el l (d + 1)) (el l d) wr) := ⟨g1.later hb hbl, g2.later hb hbl⟩
        have HS0 : HeldJ b off d (el l (d + 1)) (el l d) wr.drew := HS.out
        have k1 : (0 : Int) ≤ (d : Int) + 1 := by omega
        have k2 : (d : Int) + 1 < (n : Int) := by omega
        have k3 : (0 : Int) ≤ (d : Int) := by omega
        have k4 : (d : Int) < (n : Int) := by omega
        have k5 : IntKind.i64.wrap (d : Int) = (d : Int) := wrapK (by omega) (by omega)
        clear g1 g2
        generalize hv : orI (cmpI (el l (d + 1)).1 (el l d).1) (cmpI (el l (d + 1)).2.1 (el l d).2.1) (cmpI (el l (d + 1)).2.2.2 (el l d).2.2.2) (cmpI (el l (d + 1)).2.2.1 (el l d).2.2.1) = v
        have HV : Hid (orI (cmpI (el l (d + 1)).1 (el l d).1) (cmpI (el l (d + 1)).2.1 (el l d).2.1) (cmpI (el l (d + 1)).2.2.2 (el l d).2.2.2) (cmpI (el l (d + 1)).2.2.1 (el l d).2.2.1) = v) := hv
        have hva : decide (v < 0) = aheadB (el l (d + 1)) (el l d) := by rw [← hv]; exact orI_neg _ _
        clear hv
        rcases bool_cases' (aheadB (el l (d + 1)) (el l d)) with ha | ha
        · have HO : Hid (false = r) := by
            show _ = _
            rw [← HR.out]
            rcases bool_cases' (sortB l) with hq | hq
            · have := sortB_iff.1 hq d (by rw [HN.out]; omega)
              rw [ha] at this; cases this
            · exact hq.symm
          rw [ha] at hva
          have hneg : v < 0 := by simpa using hva
          clear ha hva hok
          generalize hx : el l (d + 1) = x at HS HS0 HV
          generalize hy : el l d = y at HS HS0 HV
          clear hx hy
          go_wp2
          refine region_anyL (HeldJ b off d x y) 1000 (by kernel_rfl) ?_
          refine anyL_take (i := 0) (v := ?v0_41) at0 (by kernel_rfl) (by kernel_rfl) (by kernel_rfl) (by kernel_rfl) (fun _ _ _ h => h) rfl ?y0_41 HS0 ?r0_41
          case y0_41 => intro wx hx; obtain ⟨⟨x0, x1, x2, x3⟩, ⟨y0, y1, y2, y3⟩⟩ := hx; go_simp; try (with_reducible rfl)
          simp only [Act.put, List.setIfInBounds_toArray, List.set_cons_zero, List.set_cons_succ]
          refine anyL_take (i := 1) (v := ?v1_42) (atS at0) (by kernel_rfl) (by kernel_rfl) (by kernel_rfl) (by kernel_rfl) (fun _ _ _ h => h) rfl ?y1_42 HS0 ?r1_42
          case y1_42 => intro wx hx; obtain ⟨⟨x0, x1, x2, x3⟩, ⟨y0, y1, y2, y3⟩⟩ := hx; go_simp; try (with_reducible rfl)
          simp only [Act.put, List.setIfInBounds_toArray, List.set_cons_zero, List.set_cons_succ]
          refine anyL_take (i := 2) (v := ?v2_43) (atS (atS at0)) (by kernel_rfl) (by kernel_rfl) (by kernel_rfl) (by kernel_rfl) (fun _ _ _ h => h) rfl ?y2_43 HS0 ?r2_43
          case y2_43 => intro wx hx; obtain ⟨⟨x0, x1, x2, x3⟩, ⟨y0, y1, y2, y3⟩⟩ := hx; go_simp; try (with_reducible rfl)
          simp only [Act.put, List.setIfInBounds_toArray, List.set_cons_zero, List.set_cons_succ]
          refine anyL_take (i := 3) (v := ?v3_44) (atS (atS (atS at0))) (by kernel_rfl) (by kernel_rfl) (by kernel_rfl) (by kernel_rfl) (fun _ _ _ h => h) rfl ?y3_44 HS0 ?r3_44
          case y3_44 => intro wx hx; obtain ⟨⟨x0, x1, x2, x3⟩, ⟨y0, y1, y2, y3⟩⟩ := hx; go_simp; try (with_reducible rfl)
          simp only [Act.put, List.setIfInBounds_toArray, List.set_cons_zero, List.set_cons_succ]
          refine anyL_take (i := 4) (v := ?v4_45) (atS (atS (atS (atS at0)))) (by kernel_rfl) (by kernel_rfl) (by kernel_rfl) (by kernel_rfl) (fun _ _ _ h => h) rfl ?y4_45 HS0 ?r4_45
          case y4_45 => intro wx hx; obtain ⟨⟨x0, x1, x2, x3⟩, ⟨y0, y1, y2, y3⟩⟩ := hx; go_simp; try (with_reducible rfl)
          simp only [Act.put, List.setIfInBounds_toArray, List.set_cons_zero, List.set_cons_succ]
          refine anyL_take (i := 5) (v := ?v5_46) (atS (atS (atS (atS (atS at0))))) (by kernel_rfl) (by kernel_rfl) (by kernel_rfl) (by kernel_rfl) (fun _ _ _ h => h) rfl ?y5_46 HS0 ?r5_46
          case y5_46 => intro wx hx; obtain ⟨⟨x0, x1, x2, x3⟩, ⟨y0, y1, y2, y3⟩⟩ := hx; go_simp; try (with_reducible rfl)
          simp only [Act.put, List.setIfInBounds_toArray, List.set_cons_zero, List.set_cons_succ]
          refine anyL_take (i := 6) (v := ?v6_47) (atS (atS (atS (atS (atS (atS at0)))))) (by kernel_rfl) (by kernel_rfl) (by kernel_rfl) (by kernel_rfl) (fun _ _ _ h => h) rfl ?y6_47 HS0 ?r6_47
          case y6_47 => intro wx hx; obtain ⟨⟨x0, x1, x2, x3⟩, ⟨y0, y1, y2, y3⟩⟩ := hx; go_simp; try (with_reducible rfl)
          simp only [Act.put, List.setIfInBounds_toArray, List.set_cons_zero, List.set_cons_succ]
          refine anyL_take (i := 7) (v := ?v7_48) (atS (atS (atS (atS (atS (atS (atS at0))))))) (by kernel_rfl) (by kernel_rfl) (by kernel_rfl) (by kernel_rfl) (fun _ _ _ h => h) rfl ?y7_48 HS0 ?r7_48
          case y7_48 => intro wx hx; obtain ⟨⟨x0, x1, x2, x3⟩, ⟨y0, y1, y2, y3⟩⟩ := hx; go_simp; try (with_reducible rfl)
          simp only [Act.put, List.setIfInBounds_toArray, List.set_cons_zero, List.set_cons_succ]
          refine anyL_take (i := 8) (v := ?v8_49) (atS (atS (atS (atS (atS (atS (atS (atS at0)))))))) (by kernel_rfl) (by kernel_rfl) (by kernel_rfl) (by kernel_rfl) (fun _ _ _ h => h) rfl ?y8_49 HS0 ?r8_49
          case y8_49 => intro wx hx; obtain ⟨⟨x0, x1, x2, x3⟩, ⟨y0, y1, y2, y3⟩⟩ := hx; go_simp; try (with_reducible rfl)
          simp only [Act.put, List.setIfInBounds_toArray, List.set_cons_zero, List.set_cons_succ]
          refine anyL_take (i := 9) (v := ?v9_50) (atS (atS (atS (atS (atS (atS (atS (atS (atS at0))))))))) (by kernel_rfl) (by kernel_rfl) (by kernel_rfl) (by kernel_rfl) (fun _ _ _ h => h) rfl ?y9_50 HS0 ?r9_50
          case y9_50 => intro wx hx; obtain ⟨⟨x0, x1, x2, x3⟩, ⟨y0, y1, y2, y3⟩⟩ := hx; go_simp; try (with_reducible rfl)
          simp only [Act.put, List.setIfInBounds_toArray, List.set_cons_zero, List.set_cons_succ]
          refine anyL_one (i := 10) (atS (atS (atS (atS (atS (atS (atS (atS (atS (atS at0)))))))))) (by kernel_rfl) rfl (fun K hK => ?_)
          go_simp
          refine (inOrder_any x y _ v HV.out).mono ?_
          rintro e w1 ⟨rfl, hb1⟩
          have HB1 : Hid (Below w.heap.size w w1) := hb.trans ((below_undrewJ hb1).mono hb.size)
          have HS1 : HeldJ b off d x y w1 := ⟨HS.out.1.later (below_undrewJ hb1) (Nat.lt_of_lt_of_le hbl hb.size), HS.out.2.later (below_undrewJ hb1) (Nat.lt_of_lt_of_le hbl hb.size)⟩
          refine hK _ _ (.inr HS1) ?_
          try simp only [Act.put, List.setIfInBounds_toArray, List.set_cons_zero, List.set_cons_succ]
          refine anyL_one (i := 11) (atS (atS (atS (atS (atS (atS (atS (atS (atS (atS (atS at0))))))))))) (by kernel_rfl) rfl (fun K hK => ?_)
          go_simp
          refine hK _ _ (.inr HS1) (anyL_done (by kernel_rfl) (NoPanic.normal ?_))
          try simp only [Act.put, List.setIfInBounds_toArray, List.set_cons_zero, List.set_cons_succ]
          clear HS0 HS1 HS hK
          go_wp2
          go_ret
          exact ⟨ret_boolK HO.out, HB1.out⟩
        · have HO : Hid (∀ j, d ≤ j → j + 1 < n → aheadB (el l (j + 1)) (el l j) = false) := fun j h1 h2 => by
            by_cases e : j = d
            · subst e; exact ha
            · exact hok.out j (by omega) h2
          rw [ha] at hva
          have hneg : ¬ v < 0 := by simpa using hva
          clear ha hva hok
          generalize hx : el l (d + 1) = x at HS HS0 HV
          generalize hy : el l d = y at HS HS0 HV
          clear hx hy
          go_wp2
          refine region_anyL (HeldJ b off d x y) 1000 (by kernel_rfl) ?_
          refine anyL_take (i := 0) (v := ?v0_51) at0 (by kernel_rfl) (by kernel_rfl) (by kernel_rfl) (by kernel_rfl) (fun _ _ _ h => h) rfl ?y0_51 HS0 ?r0_51
          case y0_51 => intro wx hx; obtain ⟨⟨x0, x1, x2, x3⟩, ⟨y0, y1, y2, y3⟩⟩ := hx; go_simp; try (with_reducible rfl)
          simp only [Act.put, List.setIfInBounds_toArray, List.set_cons_zero, List.set_cons_succ]
          refine anyL_take (i := 1) (v := ?v1_52) (atS at0) (by kernel_rfl) (by kernel_rfl) (by kernel_rfl) (by kernel_rfl) (fun _ _ _ h => h) rfl ?y1_52 HS0 ?r1_52
          case y1_52 => intro wx hx; obtain ⟨⟨x0, x1, x2, x3⟩, ⟨y0, y1, y2, y3⟩⟩ := hx; go_simp; try (with_reducible rfl)
          simp only [Act.put, List.setIfInBounds_toArray, List.set_cons_zero, List.set_cons_succ]
          refine anyL_take (i := 2) (v := ?v2_53) (atS (atS at0)) (by kernel_rfl) (by kernel_rfl) (by kernel_rfl) (by kernel_rfl) (fun _ _ _ h => h) rfl ?y2_53 HS0 ?r2_53
          case y2_53 => intro wx hx; obtain ⟨⟨x0, x1, x2, x3⟩, ⟨y0, y1, y2, y3⟩⟩ := hx; go_simp; try (with_reducible rfl)
          simp only [Act.put, List.setIfInBounds_toArray, List.set_cons_zero, List.set_cons_succ]
          refine anyL_take (i := 3) (v := ?v3_54) (atS (atS (atS at0))) (by kernel_rfl) (by kernel_rfl) (by kernel_rfl) (by kernel_rfl) (fun _ _ _ h => h) rfl ?y3_54 HS0 ?r3_54
          case y3_54 => intro wx hx; obtain ⟨⟨x0, x1, x2, x3⟩, ⟨y0, y1, y2, y3⟩⟩ := hx; go_simp; try (with_reducible rfl)
          simp only [Act.put, List.setIfInBounds_toArray, List.set_cons_zero, List.set_cons_succ]
          refine anyL_take (i := 4) (v := ?v4_55) (atS (atS (atS (atS at0)))) (by kernel_rfl) (by kernel_rfl) (by kernel_rfl) (by kernel_rfl) (fun _ _ _ h => h) rfl ?y4_55 HS0 ?r4_55
          case y4_55 => intro wx hx; obtain ⟨⟨x0, x1, x2, x3⟩, ⟨y0, y1, y2, y3⟩⟩ := hx; go_simp; try (with_reducible rfl)
          simp only [Act.put, List.setIfInBounds_toArray, List.set_cons_zero, List.set_cons_succ]
          refine anyL_take (i := 5) (v := ?v5_56) (atS (atS (atS (atS (atS at0))))) (by kernel_rfl) (by kernel_rfl) (by kernel_rfl) (by kernel_rfl) (fun _ _ _ h => h) rfl ?y5_56 HS0 ?r5_56
          case y5_56 => intro wx hx; obtain ⟨⟨x0, x1, x2, x3⟩, ⟨y0, y1, y2, y3⟩⟩ := hx; go_simp; try (with_reducible rfl)
          simp only [Act.put, List.setIfInBounds_toArray, List.set_cons_zero, List.set_cons_succ]
          refine anyL_take (i := 6) (v := ?v6_57) (atS (atS (atS (atS (atS (atS at0)))))) (by kernel_rfl) (by kernel_rfl) (by kernel_rfl) (by kernel_rfl) (fun _ _ _ h => h) rfl ?y6_57 HS0 ?r6_57
          case y6_57 => intro wx hx; obtain ⟨⟨x0, x1, x2, x3⟩, ⟨y0, y1, y2, y3⟩⟩ := hx; go_simp; try (with_reducible rfl)
          simp only [Act.put, List.setIfInBounds_toArray, List.set_cons_zero, List.set_cons_succ]
          refine anyL_take (i := 7) (v := ?v7_58) (atS (atS (atS (atS (atS (atS (atS at0))))))) (by kernel_rfl) (by kernel_rfl) (by kernel_rfl) (by kernel_rfl) (fun _ _ _ h => h) rfl ?y7_58 HS0 ?r7_58
          case y7_58 => intro wx hx; obtain ⟨⟨x0, x1, x2, x3⟩, ⟨y0, y1, y2, y3⟩⟩ := hx; go_simp; try (with_reducible rfl)
          simp only [Act.put, List.setIfInBounds_toArray, List.set_cons_zero, List.set_cons_succ]
          refine anyL_take (i := 8) (v := ?v8_59) (atS (atS (atS (atS (atS (atS (atS (atS at0)))))))) (by kernel_rfl) (by kernel_rfl) (by kernel_rfl) (by kernel_rfl) (fun _ _ _ h => h) rfl ?y8_59 HS0 ?r8_59
          case y8_59 => intro wx hx; obtain ⟨⟨x0, x1, x2, x3⟩, ⟨y0, y1, y2, y3⟩⟩ := hx; go_simp; try (with_reducible rfl)
          simp only [Act.put, List.setIfInBounds_toArray, List.set_cons_zero, List.set_cons_succ]
          refine anyL_take (i := 9) (v := ?v9_60) (atS (atS (atS (atS (atS (atS (atS (atS (atS at0))))))))) (by kernel_rfl) (by kernel_rfl) (by kernel_rfl) (by kernel_rfl) (fun _ _ _ h => h) rfl ?y9_60 HS0 ?r9_60
          case y9_60 => intro wx hx; obtain ⟨⟨x0, x1, x2, x3⟩, ⟨y0, y1, y2, y3⟩⟩ := hx; go_simp; try (with_reducible rfl)
          simp only [Act.put, List.setIfInBounds_toArray, List.set_cons_zero, List.set_cons_succ]
          refine anyL_one (i := 10) (atS (atS (atS (atS (atS (atS (atS (atS (atS (atS at0)))))))))) (by kernel_rfl) rfl (fun K hK => ?_)
          go_simp
          refine (inOrder_any x y _ v HV.out).mono ?_
          rintro e w1 ⟨rfl, hb1⟩
          have HB1 : Hid (Below w.heap.size w w1) := hb.trans ((below_undrewJ hb1).mono hb.size)
          have HS1 : HeldJ b off d x y w1 := ⟨HS.out.1.later (below_undrewJ hb1) (Nat.lt_of_lt_of_le hbl hb.size), HS.out.2.later (below_undrewJ hb1) (Nat.lt_of_lt_of_le hbl hb.size)⟩
          refine hK _ _ (.inr HS1) ?_
          try simp only [Act.put, List.setIfInBounds_toArray, List.set_cons_zero, List.set_cons_succ]
          refine anyL_one (i := 11) (atS (atS (atS (atS (atS (atS (atS (atS (atS (atS (atS at0))))))))))) (by kernel_rfl) rfl (fun K hK => ?_)
          go_simp
          refine hK _ _ (.inr HS1) (anyL_done (by kernel_rfl) (NoPanic.normal ?_))
          try simp only [Act.put, List.setIfInBounds_toArray, List.set_cons_zero, List.set_cons_succ]
          clear HS0 HS1 HS hK
          go_wp2
          go_roundw
          case rel => exact ⟨d, by omega, by go_num, HO, HB1.out⟩
          case measure => simp [intOf]
      · obtain rfl : c = 0 := by omega
        have HO : Hid (true = r) := by show _ = _; rw [← HR.out]; exact (sortB_iff.2 (fun i hi => hok.out i (Nat.zero_le _) (by rw [← HN.out]; exact hi))).symm
        clear hok
        go_wp2
        go_ret
        exact ⟨ret_boolK HO.out, hb⟩
  · obtain rfl : l = [] := List.eq_nil_of_length_eq_zero (by omega)
    subst hr
    go_enter Try.func59, Try.ntmps59
    go_wp2
    refine wp_loop_rounds 1 ?_; rw [rounds_succ]
    go_wp2
    go_ret
    exact ⟨rfl, Below.refl _ _⟩
theorem isInOrder_ask (l : List St) (w : World) (hl : ∀ j, j < l.length → (el l j).2.length ≤ 4398046511104) : AskS 34 #[] (fun s => sortB s.2) l w := by
  refine ⟨enters_of Try.func34 (by kernel_rfl) rfl, fun j hj W va hW hA => ?_⟩
  have HL : Hid ((el l j).2.length ≤ 4398046511104) := hl j hj
  generalize el l j = s at *
  obtain ⟨f, ar⟩ := s
  simp only at hA HL ⊢
  show Calls _ _ #[.agg #[.int .i64 f, va]] W _
  obtain ⟨a, cap, rfl⟩ := hA.sl
  have HA : Hid (Arcs W (.slice a ar.length cap) ar) := hA
  clear hA
  go_enter Try.func34, Try.ntmps34
  go_wp2_with (first | (go_at_call 59; (with_reducible refine (isSorted_any _ ar _ (HA.out.later (B := W.heap.size) (by go_grown) (Nat.le_refl _)) HL.out _ rfl).mono ?_); rintro e w1 ⟨rfl, hb⟩; obtain ⟨s1, b1, hb1⟩ := boxed hb (by simp)))
  go_ret
  exact ⟨rfl, hb1⟩
end Go.Proofs.Ytjpfpdbhdcopbaa.Wt
namespace Go.Proofs.Ytjpfpdbhdcopbaa.Wt
open Go.ChangeShapes Go.WideShapes Go.ChangeAt Go.RowKit
open Go.Proofs.Ytjpfpdbhdcopbaa.Pl
set_option linter.unusedVariables false
def accA (a : Ar) : Bool := decide (a.1 = a.2.1)
def fullA (a : Ar) : Bool := !(decide (a.1 = 0) && decide (a.2.1 = 0))
def freeA (a : Ar) : Bool := decide (a.2.2.1 = 0)
def freeS (s : St) : Bool := decide (s.1 = 0) || decide (s.1 = 1000000001)
theorem acc_ask (w : World) : AskA 31 #[] accA w := by
  refine ⟨enters_of Try.func31 (by kernel_rfl) rfl, fun a W hW => ?_⟩
  obtain ⟨a0, a1, a2, a3⟩ := a
  show Calls _ _ #[.agg #[.int .i64 a0, .int .i64 a1, .int .i64 a2, .int .i64 a3]] W _
  by_cases h : a0 = a1
  · subst h
    go_enter Try.func31, Try.ntmps31
    go_wp2
    go_ret
    exact ⟨ret_boolK (by simp [accA]), by go_grown⟩
  · have hne : (a0 == a1) = false := by simpa using h
    go_enter Try.func31, Try.ntmps31
    go_wp2
    go_ret
    exact ⟨ret_boolK (by simp [accA, h]), by go_grown⟩
theorem free_ask (w : World) : AskA 35 #[] freeA w := by
  refine ⟨enters_of Try.func35 (by kernel_rfl) rfl, fun a W hW => ?_⟩
  obtain ⟨a0, a1, a2, a3⟩ := a
  show Calls _ _ #[.agg #[.int .i64 a0, .int .i64 a1, .int .i64 a2, .int .i64 a3]] W _
  by_cases h : a2 = 0
  · subst h
    go_enter Try.func35, Try.ntmps35
    go_wp2
    go_ret
    exact ⟨ret_boolK (by simp [freeA]), by go_grown⟩
  · have hne : (a2 == 0) = false := by simpa using h
    go_enter Try.func35, Try.ntmps35
    go_wp2
    go_ret
    exact ⟨ret_boolK (by simp [freeA, h]), by go_grown⟩
theorem full_ask (w : World) : AskA 30 #[] fullA w := by
  refine ⟨enters_of Try.func30 (by kernel_rfl) rfl, fun a W hW => ?_⟩
  obtain ⟨a0, a1, a2, a3⟩ := a
  show Calls _ _ #[.agg #[.int .i64 a0, .int .i64 a1, .int .i64 a2, .int .i64 a3]] W _
  by_cases h : a0 = 0
  · subst h
    by_cases h1 : a1 = 0
    · subst h1
      go_enter Try.func30, Try.ntmps30
      go_wp2
      go_ret
      exact ⟨ret_boolK (by simp [fullA]), by go_grown⟩
    · have hne : (a1 != 0) = true := by simpa using h1
      go_enter Try.func30, Try.ntmps30
      go_wp2
      go_ret
      exact ⟨ret_boolK (by simp [fullA, h1]), by go_grown⟩
  · have hne : (a0 != 0) = true := by simpa using h
    go_enter Try.func30, Try.ntmps30
    go_wp2
    go_ret
    exact ⟨ret_boolK (by simp [fullA, h]), by go_grown⟩
theorem ends_ask (l : List St) (w : World) : AskS 36 #[] freeS l w := by
  refine ⟨enters_of Try.func36 (by kernel_rfl) rfl, fun j hj W va hW hA => ?_⟩
  generalize el l j = s at *
  obtain ⟨f, ar⟩ := s
  obtain ⟨a, cap, rfl⟩ := hA.sl
  show Calls _ _ #[.agg #[.int .i64 f, .slice a ar.length cap]] W _
  clear hA
  by_cases h : f = 0
  · subst h
    go_enter Try.func36, Try.ntmps36
    go_wp2
    go_ret
    exact ⟨ret_boolK (by simp [freeS]), by go_grown⟩
  · have hne : (f == 0) = false := by simpa using h
    by_cases h1 : f = 1000000001
    · subst h1
      go_enter Try.func36, Try.ntmps36
      go_wp2
      go_ret
      exact ⟨ret_boolK (by simp [freeS]), by go_grown⟩
    · have hne1 : (f == 1000000001) = false := by simpa using h1
      go_enter Try.func36, Try.ntmps36
      go_wp2
      go_ret
      exact ⟨ret_boolK (by simp [freeS, h, h1]), by go_grown⟩
end Go.Proofs.Ytjpfpdbhdcopbaa.Wt
namespace Go.Proofs.Ytjpfpdbhdcopbaa.Wt
open Go.ChangeShapes Go.WideShapes Go.ChangeAt Go.RowKit Go.Maps
open Go.Proofs.Ytjpfpdbhdcopbaa.Pl
set_option linter.unusedVariables false
set_option linter.unusedSimpArgs false
set_option maxRecDepth 100000 in
theorem lawPK : Go.WideMaps.KeyLaw Try.prog 91 := Go.deep_law (m := 2) (by omega) (by kernel_rfl) (by kernel_rfl) (by kernel_rfl)
set_option maxRecDepth 100000 in
theorem lawP : Keyed Try.prog 91 := Keyed.of_law lawPK
def pairV (x y : Int) : Value := .agg #[.int .i64 x, .int .i64 y]
set_option maxRecDepth 100000 in
theorem keyP {x y : Int} (hx : (Lit.int .i64 x).wf = true) (hy : (Lit.int .i64 y).wf = true) : ∃ kl, keyOf Try.prog 91 (.agg #[.int .i64 x, .int .i64 y]) = some kl := by
  have h1 : Try.prog.keyType 91 = true := by kernel_rfl
  have hc : Try.prog.cellsOf 91 = 2 := by kernel_rfl
  have hi : Try.prog.cellsOf 3 = 1 := by kernel_rfl
  have h2 : (Value.agg #[.int .i64 x, .int .i64 y]).formed Try.prog 91 = true := by simp [Value.formed, Try.underlying91, hc]
  obtain ⟨n, hn⟩ : ∃ n, Try.prog.types.size + 1 = n + 1 + 1 := ⟨Try.prog.types.size - 1, by kernel_rfl⟩
  have h3 : Try.prog.keyLits (Try.prog.types.size + 1) 91 [.int .i64 x, .int .i64 y] = some [.int .i64 x, .int .i64 y] := by
    rw [hn]
    simp [Program.keyLits, Try.underlying91, Try.underlying3, hc, hi, hx, hy]
  refine ⟨.string (keyBytes [.int .i64 x, .int .i64 y]), ?_⟩
  unfold keyOf
  rw [Try.underlying91]
  simp only [h1, h2, Bool.and_self, if_true, Value.cells, h3, Option.map_some]
set_option maxRecDepth 100000 in
theorem keyP_inj {x y x' y' : Int} {kl : Lit} (h : keyOf Try.prog 91 (.agg #[.int .i64 x, .int .i64 y]) = some kl) (h' : keyOf Try.prog 91 (.agg #[.int .i64 x', .int .i64 y']) = some kl) : x = x' ∧ y = y' := by
  have := lawP.inj h h'
  simpa using this
/-- The map at block m tells f x y of each pair x, y. -/
def Seen (w : World) (m n : Nat) (f : Int → Int → Int) : Prop :=
  ∃ D : DataW Unit, w.ownsMap Try.prog 91 (plainElem Try.prog 3) m n D ∧ ∀ x y kl, keyOf Try.prog 91 (.agg #[.int .i64 x, .int .i64 y]) = some kl → D.atKey kl (.lit (.int .i64 0)) = .lit (.int .i64 (f x y))
set_option maxRecDepth 100000 in
theorem Seen.made (w : World) : Seen (w.alloc (.map #[] 0)) w.heap.size 0 (fun _ _ => 0) :=
  ⟨_, World.ownsMap_made w _ _ _, fun x y kl h => by simp [DataW.atKey]⟩
set_option maxRecDepth 100000 in
theorem Seen.drew {w : World} {m n : Nat} {f : Int → Int → Int} (h : Seen w m n f) : Seen w.drew m n f := h
set_option maxRecDepth 100000 in
theorem Seen.lt {w : World} {m n : Nat} {f : Int → Int → Int} (h : Seen w m n f) : m < w.heap.size := by obtain ⟨D, h, _⟩ := h; exact h.lt
set_option maxRecDepth 100000 in
theorem Seen.kept {w w' : World} {m n : Nat} {f : Int → Int → Int} {row : Option Nat} (h : Seen w m n f) (hg : w.grownBy w' row) (hne : some m ≠ row) : Seen w' m n f := by
  obtain ⟨D, h1, h2⟩ := h
  exact ⟨D, h1.kept hg hne, h2⟩
set_option maxRecDepth 100000 in
theorem zeroI (w : World) : (zeroValue 3).run Try.prog w = .ok (.int .i64 0) w := by kernel_rfl
set_option maxRecDepth 100000 in
theorem Seen.look {w : World} {m n : Nat} {f : Int → Int → Int} (h : Seen w m n f) {x y : Int} (hx : (Lit.int .i64 x).wf = true) (hy : (Lit.int .i64 y).wf = true) :
    (Instr.lookup 89 (.map (some m)) (.agg #[.int .i64 x, .int .i64 y]) false).run Try.prog w = .ok (.int .i64 (f x y)) w := by
  obtain ⟨D, h1, h2⟩ := h
  obtain ⟨kl, hk⟩ := keyP hx hy
  obtain ⟨c, hr, hc, _⟩ := h1.lookup_int lawP Try.underlying89 Try.underlying3 (zeroI w) hk
  rw [h2 x y kl hk] at hc
  injection hc with e1
  injection e1 with _ e2
  rw [e2]
  exact hr
set_option maxRecDepth 100000 in
theorem Seen.entry {w : World} {m n : Nat} {f : Int → Int → Int} (h : Seen w m n f) (hn : n < 4398046511104) {x y : Int} (hx : (Lit.int .i64 x).wf = true) (hy : (Lit.int .i64 y).wf = true) (v : Int) (hv : (Lit.int .i64 v).wf = true) :
    ∃ v0 st w1 w2, (Instr.mapEntry 89 (.map (some m)) (.agg #[.int .i64 x, .int .i64 y])).run Try.prog w = .ok (.tuple #[v0, goInt st]) w1 ∧ w.grownBy w1 (some m) ∧
      (Instr.entryStore 89 (.map (some m)) (goInt st) (.int .i64 v)).run Try.prog w1 = .ok () w2 ∧ w.grownBy w2 (some m) ∧ Seen w2 m (n + 1) (fun a b => if a = x ∧ b = y then v else f a b) := by
  obtain ⟨D, h1, h2⟩ := h
  obtain ⟨kl, hk⟩ := keyP hx hy
  obtain ⟨w2, hu, ho2, hg2⟩ := World.ownsMap.update (R := plainElem Try.prog 3) h1 lawP Try.underlying89 (by unfold maxLen; omega) hk (plainElem_int Try.underlying3 hv)
  obtain ⟨es, clock, hb, F, _, _⟩ := id h1
  obtain ⟨v0, st, es1, clock1, r1, _, r2⟩ := Go.WideElems.entry_then_store lawPK Try.underlying89 zeroI hb F hk
  obtain ⟨es', clock', r3, r4⟩ := r2 (Go.ChangeMaps.setBlock w m (.map es1 clock1)) (.int .i64 v) (Go.ChangeMaps.heap_setBlock_same hb _)
  have hgw : ∀ o, w.grownBy (Go.ChangeMaps.setBlock w m o) (some m) := fun o => ⟨rfl, rfl, rfl, by simp [Go.ChangeMaps.setBlock], fun i _ hi => Go.ChangeMaps.heap_setBlock_other hb _ (fun e => hi (by rw [e]))⟩
  have e2 : w2 = Go.ChangeMaps.setBlock w m (.map es' clock') := by
    rw [hu] at r4
    injection r4
  have e3 : Go.ChangeMaps.setBlock (Go.ChangeMaps.setBlock w m (.map es1 clock1)) m (.map es' clock') = w2 := by
    rw [e2]
    simp [Go.ChangeMaps.setBlock]
  refine ⟨v0, st, _, w2, r1, hgw _, ?_, hg2, D.put kl (.lit (.int .i64 v)), ho2, ?_⟩
  · rw [r3, e3]
  · intro a b kl' hk'
    by_cases e : a = x ∧ b = y
    · obtain ⟨rfl, rfl⟩ := e
      have : kl' = kl := by rw [hk] at hk'; injection hk' with h; exact h.symm
      subst this
      simp only [and_self, if_true]
      exact atKey_put_same (h1.isMap) (lawP.key hk) _ _
    · simp only
      rw [if_neg e]
      have hne : kl' ≠ kl := fun h => by
        subst h
        exact e (keyP_inj hk' hk)
      rw [atKey_put_other hne]
      exact h2 a b kl' hk'
set_option maxRecDepth 100000 in
/-- Behind the first half of m[k]++ the map tells what it told. -/
theorem Seen.half {w w1 : World} {m n : Nat} {f : Int → Int → Int} (h : Seen w m n f) (hn : n < 4398046511104) {x y : Int} (hx : (Lit.int .i64 x).wf = true) (hy : (Lit.int .i64 y).wf = true) {u : Value}
    (hr : (Instr.mapEntry 89 (.map (some m)) (.agg #[.int .i64 x, .int .i64 y])).run Try.prog w = .ok u w1) : Seen w1 m (n + 1) f := by
  obtain ⟨D, h1, h2⟩ := h
  obtain ⟨kl, hk⟩ := keyP hx hy
  have ht := Try.underlying89
  obtain ⟨es, clock, hb, F, hs, hD⟩ := id h1
  rcases lawPK.find w hk es.toList F.keys with ⟨k1, k2⟩ | ⟨j, e0, k1, k2, k3⟩
  · have r1 : (Instr.mapEntry 89 (.map (some m)) (.agg #[.int .i64 x, .int .i64 y])).run Try.prog w = .ok (.tuple #[.int .i64 0, goInt clock]) (Go.ChangeMaps.setBlock w m (.map (es.push ⟨.agg #[.int .i64 x, .int .i64 y], .int .i64 0, clock⟩) (clock + 1))) := by
      simp [Instr.mapEntry, run_underlying ht, MapKept.run_getObj_map hb, lawPK.check w false hk, k1, zeroI, MapKept.run_setObj_map _ hb, Result.andThen, Go.ChangeMaps.setBlock]
    have r2 : (Instr.mapUpdate 89 (.map (some m)) (.agg #[.int .i64 x, .int .i64 y]) (.int .i64 0)).run Try.prog w = .ok () (Go.ChangeMaps.setBlock w m (.map (es.push ⟨.agg #[.int .i64 x, .int .i64 y], .int .i64 0, clock⟩) (clock + 1))) := by
      simp [Instr.mapUpdate, run_underlying ht, MapKept.run_getObj_map hb, lawPK.check w false hk, k1, MapKept.run_setObj_map _ hb, Result.andThen, Go.ChangeMaps.setBlock]
    obtain ⟨w2, hu, ho2, _⟩ := World.ownsMap.update (R := plainElem Try.prog 3) h1 lawP ht (by unfold maxLen; omega) hk (plainElem_int Try.underlying3 (a := 0) (by decide))
    rw [hr] at r1
    rw [hu] at r2
    injection r1 with _ e1
    injection r2 with _ e2
    rw [e1, ← e2]
    refine ⟨_, ho2, fun a b kl' hk' => ?_⟩
    by_cases e : kl' = kl
    · subst e
      obtain ⟨rfl, rfl⟩ := keyP_inj hk hk'
      rw [atKey_put_same (h1.isMap) (lawP.key hk)]
      have h3 := h2 x y kl' hk
      have h4 : D.atKey kl' (.lit (.int .i64 0)) = .lit (.int .i64 0) := by
        rw [hD]
        exact Go.WideElems.atKey_none lawPK F hk k2 _
      rw [h3] at h4
      exact h4.symm
    · rw [atKey_put_other e]
      exact h2 a b kl' hk'
  · have hj : es[j]? = some e0 := by simpa using k2
    have hsame : es.modify j (fun e => { e with key := .agg #[.int .i64 x, .int .i64 y] }) = es := by
      apply Array.ext'
      rw [Array.toList_modify, ChangeMaps.modify_eq_set _ _ _ _ k2]
      have : ({ e0 with key := .agg #[.int .i64 x, .int .i64 y] } : MapEntry) = e0 := by rw [← k3]
      rw [this]
      exact Go.WideElems.set_self _ _ _ k2
    have r1 : (Instr.mapEntry 89 (.map (some m)) (.agg #[.int .i64 x, .int .i64 y])).run Try.prog w = .ok (.tuple #[e0.val, goInt e0.born]) (Go.ChangeMaps.setBlock w m (.map es clock)) := by
      simp [Instr.mapEntry, run_underlying ht, MapKept.run_getObj_map hb, lawPK.check w false hk, k1, hj, k3, lawPK.stays w hk, hsame, MapKept.run_setObj_map _ hb, Result.andThen, Go.ChangeMaps.setBlock]
    rw [hr] at r1
    injection r1 with _ e1
    rw [e1]
    exact ⟨D, ⟨es, clock, Go.ChangeMaps.heap_setBlock_same hb _, F, by omega, hD⟩, h2⟩
set_option maxRecDepth 100000 in
theorem onceTo_snoc {l : List Ar} {k : Nat} (h : ∀ i, i < k → ∀ j, j < i → pairB (el l i) (el l j) = false) (hk : ∀ j, j < k → pairB (el l k) (el l j) = false) : ∀ i, i < k + 1 → ∀ j, j < i → pairB (el l i) (el l j) = false := fun i hi j hj => by
  by_cases e : i = k
  · subst e; exact hk j hj
  · exact h i (by omega) j hj
/-- How often the pair x, y stands among the first k arcs, where no pair stands twice. -/
def seenB (l : List Ar) (k : Nat) (x y : Int) : Int := if (List.range k).any (fun j => decide ((el l j).1 = x) && decide ((el l j).2.1 = y)) = true then 1 else 0
set_option maxRecDepth 100000 in
theorem seenB_zero (l : List Ar) (x y : Int) : seenB l 0 x y = 0 := by simp [seenB]
set_option maxRecDepth 100000 in
theorem seenB_succ (l : List Ar) (k : Nat) (x y : Int) : seenB l (k + 1) x y = if x = (el l k).1 ∧ y = (el l k).2.1 then 1 else seenB l k x y := by
  unfold seenB
  rw [List.range_succ, List.any_append]
  by_cases h : x = (el l k).1 ∧ y = (el l k).2.1
  · obtain ⟨rfl, rfl⟩ := h
    simp
  · have : (decide ((el l k).1 = x) && decide ((el l k).2.1 = y)) = false := by
      rw [Bool.and_eq_false_iff]
      by_cases e : (el l k).1 = x
      · right; simp; intro e2; exact h ⟨e.symm, e2.symm⟩
      · left; simpa using e
    simp only [List.any_cons, List.any_nil, this, Bool.or_false, if_neg h]
set_option maxRecDepth 100000 in
theorem seenB_one {l : List Ar} {k : Nat} {x y : Int} : seenB l k x y = 1 ↔ ∃ j, j < k ∧ (el l j).1 = x ∧ (el l j).2.1 = y := by
  unfold seenB
  simp only [List.any_eq_true, List.mem_range, Bool.and_eq_true, decide_eq_true_eq]
  constructor
  · intro h
    split at h
    · rename_i h1; exact h1
    · simp at h
  · intro h
    rw [if_pos h]
set_option maxRecDepth 100000 in
theorem seenB_cases (l : List Ar) (k : Nat) (x y : Int) : seenB l k x y = 1 ∨ seenB l k x y = 0 := by unfold seenB; split <;> simp
set_option maxRecDepth 100000 in
set_option maxHeartbeats 2000000 in
theorem hasOnce_any (f : Int) (va : Value) (l : List Ar) (w : World) (h : Arcs w va l) (hl : l.length ≤ 400) (hw : ∀ j, j < l.length → (Lit.int .i64 (el l j).1).wf = true ∧ (Lit.int .i64 (el l j).2.1).wf = true) (r : Bool) (hr : onceB l = r) :
    Calls Try.prog 33 #[.agg #[.int .i64 f, va]] w fun e w' => e = .returned (.bool r) ∧ Below w.heap.size w w' := by
  obtain ⟨a, cap, rfl, hc⟩ := h.get
  have HC : Hid (∀ j, j < l.length → ∃ b off, a = some ⟨b, off, none⟩ ∧ b < w.heap.size ∧ w.cell? ⟨b, off + j * 4, none⟩ = some (.int .i64 (el l j).1) ∧ w.cell? ⟨b, off + j * 4 + 1, none⟩ = some (.int .i64 (el l j).2.1) ∧ w.cell? ⟨b, off + j * 4 + 2, none⟩ = some (.int .i64 (el l j).2.2.1) ∧ w.cell? ⟨b, off + j * 4 + 3, none⟩ = some (.int .i64 (el l j).2.2.2)) := hc
  have HR : Hid (onceB l = r) := hr
  have HW : Hid (∀ j, j < l.length → (Lit.int .i64 (el l j).1).wf = true ∧ (Lit.int .i64 (el l j).2.1).wf = true) := hw
  clear h hc hr hw
  generalize hn : l.length = n at *
  have HN : Hid (l.length = n) := hn
  clear hn
  have hm1 := fun m w => run_makeMap_hint (P := Try.prog) Try.underlying89 m w
  go_enter Try.func33, Try.ntmps33
  go_wp2
  go_loopw [14] (fun i wr => ∃ k : Nat, k ≤ n ∧ i = .int .i64 k ∧ Hid (∀ i, i < k → ∀ j, j < i → pairB (el l i) (el l j) = false) ∧ Hid (Seen wr (w.heap.size + 1) k (seenB l k)) ∧ Hid (Below w.heap.size w wr)) (fun i _ => n - (intOf i).toNat)
  case atStart =>
    refine ⟨0, Nat.zero_le _, rfl, fun i hi => by omega, ?_, ?_⟩
    · have h := Seen.made (w.alloc (.cells #[.int .i64 f, .slice a n cap] 46))
      simp only [World.size_alloc] at h
      obtain ⟨D, h1, h2⟩ := h
      exact ⟨D, h1, fun x y kl hk => by rw [h2 x y kl hk, seenB_zero]⟩
    · show Below _ _ _; go_grown
  case round =>
    obtain ⟨k, hk, rfl, hok, hS, hb⟩ := hrel
    by_cases hlt : k < n
    · obtain ⟨b, off, rfl, hbl, g0, g1, g2, g3⟩ := HC.out k hlt
      have g0 := (hb.out.cell (p := ⟨b, off + k * 4, none⟩) hbl).trans g0
      have g1 := (hb.out.cell (p := ⟨b, off + k * 4 + 1, none⟩) hbl).trans g1
      have g2 := (hb.out.cell (p := ⟨b, off + k * 4 + 2, none⟩) hbl).trans g2
      have g3 := (hb.out.cell (p := ⟨b, off + k * 4 + 3, none⟩) hbl).trans g3
      obtain ⟨wx, wy⟩ := HW.out k hlt
      have SU : Seen ((wr.alloc (.cells #[.int .i64 (el l k).1, .int .i64 (el l k).2.1, .int .i64 (el l k).2.2.1, .int .i64 (el l k).2.2.2] 53)).alloc (.cells #[.int .i64 (el l k).1, .int .i64 (el l k).2.1] 91)).drew (w.heap.size + 1) k (seenB l k) := ((hS.out.kept (World.grownBy_alloc wr _ none) (by simp)).kept (World.grownBy_alloc _ _ none) (by simp)).drew
      have l0 := SU.look wx wy
      obtain ⟨v0, st, w1, w2, e1, gr1, e2, gr2, S2⟩ := SU.entry (by omega) wx wy (seenB l k (el l k).1 (el l k).2.1 + 1) (by rcases seenB_cases l k (el l k).1 (el l k).2.1 with h | h <;> rw [h] <;> decide)
      have S1 := SU.half (by omega) wx wy e1
      have l1 := S1.look wx wy
      have l2 := S2.look wx wy
      simp only [and_self, if_true] at l2
      simp only [goInt] at e1 e2
      have hml := hS.out.lt
      have hP := Blk.made (wr.alloc (.cells #[.int .i64 (el l k).1, .int .i64 (el l k).2.1, .int .i64 (el l k).2.2.1, .int .i64 (el l k).2.2.2] 53)) #[.int .i64 (el l k).1, .int .i64 (el l k).2.1] 91
      simp only [World.size_alloc] at hP
      have hP2 : Blk w2 (wr.heap.size + 1) #[.int .i64 (el l k).1, .int .i64 (el l k).2.1] 91 := (hP.drew).grown gr2 (by simp; omega)
      have q0 := hP2.cell 0 (v := .int .i64 (el l k).1) rfl
      have q1 := hP2.cell 1 (v := .int .i64 (el l k).2.1) rfl
      have HB2 : Hid (Below w.heap.size w w2) := by
        show Below _ _ _
        exact ((hb.out.alloc hb.out.size _).alloc (by have h := hb.out.size; simp; omega) _).drew.grown gr2 (by have h := hb.out.size; show _ ≤ ((wr.alloc (.cells #[.int .i64 (el l k).1, .int .i64 (el l k).2.1, .int .i64 (el l k).2.2.1, .int .i64 (el l k).2.2.2] 53)).alloc (.cells #[.int .i64 (el l k).1, .int .i64 (el l k).2.1] 91)).heap.size; simp; omega) (fun j hj => by cases hj; omega)
      have hSE : ∀ x y, (if x = (el l k).1 ∧ y = (el l k).2.1 then seenB l k (el l k).1 (el l k).2.1 + 1 else seenB l k x y) = (if x = (el l k).1 ∧ y = (el l k).2.1 then seenB l k (el l k).1 (el l k).2.1 + 1 else seenB l k x y) := fun _ _ => rfl
      clear hSE
      rcases seenB_cases l k (el l k).1 (el l k).2.1 with hc | hc
      · obtain ⟨j, hj, e3, e4⟩ := seenB_one.1 hc
        have HO : Hid (false = r) := by
          show _ = _
          rw [← HR.out]
          rcases bool_cases' (onceB l) with hq | hq
          · have h1 := onceB_iff.1 hq k (by rw [HN.out]; exact hlt) j hj
            have h2 : pairB (el l k) (el l j) = true := pairB_iff.2 ⟨e3.symm, e4.symm⟩
            rw [h2] at h1; cases h1
          · exact hq.symm
        rw [hc] at l0 l1 l2 e2
        simp only [Int.reduceAdd] at l2 e2
        clear e3 e4 hc S1 S2 SU hP hP2 gr1 gr2 hok hS
        generalize el l k = p at *
        obtain ⟨p0, p1, p2, p3⟩ := p
        simp only at *
        go_wp2
        go_region
        all_goals go_wp2
        all_goals go_ret
        all_goals exact ⟨ret_boolK HO.out, HB2.out⟩
      · have HO : Hid (∀ i, i < k + 1 → ∀ j, j < i → pairB (el l i) (el l j) = false) := onceTo_snoc hok.out (fun j hj => by
          rcases bool_cases' (pairB (el l k) (el l j)) with h | h
          · have h2 := pairB_iff.1 h
            have h3 := seenB_one.2 ⟨j, hj, h2.1.symm, h2.2.symm⟩
            rw [hc] at h3
            cases h3
          · exact h)
        have HS2 : Hid (Seen w2 (w.heap.size + 1) (k + 1) (seenB l (k + 1))) := by
          obtain ⟨D, d1, d2⟩ := S2
          refine ⟨D, d1, fun x y kl hk => ?_⟩
          rw [d2 x y kl hk, seenB_succ, hc]
          rfl
        rw [hc] at l0 l1 l2 e2
        simp only [Int.reduceAdd] at l2 e2
        clear hc S1 S2 SU hP hP2 gr1 gr2 hok hS
        generalize el l k = p at g0 g1 g2 g3 l0 l1 l2 e1 e2 q0 q1 wx wy
        obtain ⟨p0, p1, p2, p3⟩ := p
        simp only at g0 g1 g2 g3 l0 l1 l2 e1 e2 q0 q1 wx wy
        go_wp2
        go_region
        all_goals go_wp2
        all_goals go_roundw
        all_goals first
          | exact ⟨k + 1, by omega, by go_num, HO, HS2, HB2⟩
          | (simp [intOf]; omega)
    · have hke : k = n := by omega
      have HO : Hid (true = r) := by show _ = _; rw [← HR.out]; exact (onceB_iff.2 (fun i hi j hj => hok.out i (by rw [hke, ← HN.out]; exact hi) j hj)).symm
      have hnl : ¬ (k : Int) < (n : Int) := by omega
      clear hke hok hlt
      go_wp2
      go_ret
      exact ⟨ret_boolK HO.out, hb.out⟩
end Go.Proofs.Ytjpfpdbhdcopbaa.Wt
namespace Go.Proofs.Ytjpfpdbhdcopbaa.Wt
open Go.ChangeShapes Go.WideShapes Go.ChangeAt Go.RowKit
open Go.Proofs.Ytjpfpdbhdcopbaa.Pl
set_option linter.unusedVariables false
set_option linter.unusedSimpArgs false
/-- A right machine: its sizes, its labels. -/
def Right (l : List St) : Prop := ∀ j, j < l.length → (el l j).2.length ≤ 400 ∧ ∀ i, i < (el l j).2.length → (Lit.int .i64 (el (el l j).2 i).1).wf = true ∧ (Lit.int .i64 (el (el l j).2 i).2.1).wf = true
theorem arcN_ge {l : List St} {j : Nat} (h : j < l.length) : (el l j).2.length ≤ arcN l := by
  induction l generalizing j with
  | nil => simp at h
  | cons s l ih =>
    cases j with
    | zero => rw [el_zero]; simp [arcN]
    | succ j => rw [el_succ]; have := ih (j := j) (by simpa using h); simp only [arcN]; omega
theorem wf_small {x : Int} (h0 : 0 ≤ x) (h1 : x ≤ 1000000001) : (Lit.int .i64 x).wf = true := WalkArith.wf_i64 (by omega)
theorem right_of {z : Int} {l : List St} (h : faultM (z, l) = 0) : Right l := fun j hj => by
  have h1 := right_st h hj
  have h2 := right_size h
  refine ⟨Nat.le_trans (arcN_ge hj) h2.2, fun i hi => ?_⟩
  have h3 := List.all_eq_true.1 h1.2 _ (el_mem hi)
  simp only [arcB, inB, Bool.and_eq_true, decide_eq_true_eq] at h3
  exact ⟨wf_small h3.1.1.1.1 (by omega), wf_small h3.1.1.2.1 (by omega)⟩
theorem hasOnce_ask (l : List St) (w : World) (hl : Right l) : AskS 33 #[] (fun s => onceB s.2) l w :=
  ⟨enters_of Try.func33 (by kernel_rfl) rfl, fun j hj W va hW hA => hasOnce_any _ va _ W hA (hl j hj).1 (hl j hj).2 _ rfl⟩
set_option maxRecDepth 100000 in
set_option maxHeartbeats 4000000 in
theorem bits_ok (z : Int) (a : Option Addr) (cap : Nat) (l : List St) (w : World) (hM : Mach w (.agg #[.int .i64 z, .slice a l.length cap]) (z, l)) (hok : okM (z, l)) (hr : faultM (z, l) = 0) (rA rF rC rS rP rE : Bool)
    (hA : l.all (fun s => s.2.all accA) = rA) (hF : l.all (fun s => s.2.all fullA) = rF) (hC : l.all (fun s => onceB s.2) = rC) (hS : l.all (fun s => sortB s.2) = rS) (hP : l.all (fun s => s.2.all freeA) = rP) (hE : l.all freeS = rE) :
    Calls Try.prog 11 #[.agg #[.int .i64 z, .slice a l.length cap]] w fun e w' => e = .returned (.tuple #[.agg #[.bool rA, .bool rF, .bool (rF && rC), .bool rS, .bool (rP && rE)], .int .i64 0]) ∧ Below w.heap.size w w' := by
  have HM : Hid (Mach w (.agg #[.int .i64 z, .slice a l.length cap]) (z, l)) := hM
  have HK : Hid (okM (z, l)) := hok
  have HF0 : Hid (faultM (z, l) = 0) := hr
  have HR : Hid (Right l) := right_of hr
  have H60 : Hid (l.length ≤ 60) := (right_size hr).1
  have HL : Hid (∀ j, j < l.length → (el l j).2.length ≤ 4398046511104) := fun j hj => by have := hok.2 j hj; simp only at this; omega
  have HA : Hid (l.all (fun s => s.2.all accA) = rA) := hA
  have HF : Hid (l.all (fun s => s.2.all fullA) = rF) := hF
  have HC : Hid (l.all (fun s => onceB s.2) = rC) := hC
  have HSo : Hid (l.all (fun s => sortB s.2) = rS) := hS
  have HFr : Hid (l.all (fun s => s.2.all freeA) = rP) := hP
  have HE : Hid (l.all freeS = rE) := hE
  have hl := hok.1
  simp only at hl
  clear hM hok hr hA hF hC hS hP hE
  generalize hn : l.length = n at HM H60 hl ⊢
  have HN : Hid (l.length = n) := hn
  clear hn
  cases rF <;> cases rP
  · go_enter Try.func11, Try.ntmps11
    go_wp2_with (first
      | (go_at_call 16; (with_reducible refine (coreCheck_any _ (z, l) _ (HM.out.later (B := w.heap.size) (by go_grown) (Nat.le_refl _)) HK.out _ HF0.out).mono ?_); rintro e w0 ⟨rfl, hb⟩; obtain ⟨s0, k0, k1, hb1⟩ := boxed2 hb (by simp); have c0 := k0.cell 0 (v := .int .i64 z) rfl; have c1 := k0.cell 1 (v := .slice a n cap) rfl; have HB0 : Hid (Below w.heap.size w w0) := hb1; have J0 : Hid (Blk w0 w.heap.size #[.int .i64 z, .slice a n cap] 24) := k0; have J1 : Hid (Blk w0 (w.heap.size + 1) #[.bool false, .bool false, .bool false, .bool false, .bool false] 37) := k1; clear hb hb1 k0 k1)
      | (go_at_call 29; (with_reducible refine (everyArc_any _ (z, l) _ (HM.out.later HB0.out (Nat.le_refl _)) _ _ _ (full_ask _) HK.out (by show l.length ≤ 60; rw [HN.out]; exact H60.out) _ HF.out).mono ?_); rintro e w1 ⟨rfl, hb⟩; have HB1 : Hid (Below w.heap.size w w1) := HB0.out.trans (hb.mono HB0.out.size); have K0 : Hid (Blk w1 w.heap.size #[.int .i64 z, .slice a n cap] 24) := J0.out.below hb (by omega); have K1 : Hid (Blk w1 (w.heap.size + 1) #[.bool false, .bool false, .bool false, .bool false, .bool false] 37) := J1.out.below hb (by omega); have s1 : w.heap.size + 2 ≤ w1.heap.size := Nat.le_trans s0 hb.size; clear hb))
    refine region_anyL (HeldN w.heap.size z (.slice a n cap)) 1000 (by kernel_rfl) ?_
    have HS1 : HeldN w.heap.size z (.slice a n cap) w1.drew := ⟨K0.out.cell 0 rfl, K0.out.cell 1 rfl⟩
    refine anyL_take (i := 0) (v := ?v0_1) at0 (by kernel_rfl) (by kernel_rfl) (by kernel_rfl) (by kernel_rfl) (fun _ _ _ h => h) rfl ?y0_1 HS1 ?r0_1
    case y0_1 => intro wx hx; obtain ⟨h1, h2⟩ := hx; go_simp; try (with_reducible rfl)
    simp only [Act.put, List.setIfInBounds_toArray, List.set_cons_zero, List.set_cons_succ]
    refine anyL_take (i := 2) (v := ?v2_2) (atS (atS at0)) (by kernel_rfl) (by kernel_rfl) (by kernel_rfl) (by kernel_rfl) (fun _ _ _ h => h) rfl ?y2_2 HS1 ?r2_2
    case y2_2 => intro wx hx; obtain ⟨h1, h2⟩ := hx; go_simp; try (with_reducible rfl)
    simp only [Act.put, List.setIfInBounds_toArray, List.set_cons_zero, List.set_cons_succ]
    refine anyL_take (i := 3) (v := ?v3_3) (atS (atS (atS at0))) (by kernel_rfl) (by kernel_rfl) (by kernel_rfl) (by kernel_rfl) (fun _ _ _ h => h) rfl ?y3_3 HS1 ?r3_3
    case y3_3 => intro wx hx; obtain ⟨h1, h2⟩ := hx; go_simp; try (with_reducible rfl)
    simp only [Act.put, List.setIfInBounds_toArray, List.set_cons_zero, List.set_cons_succ]
    refine anyL_take (i := 8) (v := ?v8_4) (atS (atS (atS (atS (atS (atS (atS (atS at0)))))))) (by kernel_rfl) (by kernel_rfl) (by kernel_rfl) (by kernel_rfl) (fun _ _ _ h => h) rfl ?y8_4 HS1 ?r8_4
    case y8_4 => intro wx hx; obtain ⟨h1, h2⟩ := hx; go_simp; try (with_reducible rfl)
    simp only [Act.put, List.setIfInBounds_toArray, List.set_cons_zero, List.set_cons_succ]
    refine anyL_take (i := 10) (v := ?v10_5) (atS (atS (atS (atS (atS (atS (atS (atS (atS (atS at0)))))))))) (by kernel_rfl) (by kernel_rfl) (by kernel_rfl) (by kernel_rfl) (fun _ _ _ h => h) rfl ?y10_5 HS1 ?r10_5
    case y10_5 => intro wx hx; obtain ⟨h1, h2⟩ := hx; go_simp; try (with_reducible rfl)
    simp only [Act.put, List.setIfInBounds_toArray, List.set_cons_zero, List.set_cons_succ]
    refine anyL_one (i := 1) (atS at0) (by kernel_rfl) rfl (fun K hK => ?_)
    go_simp
    refine (everyArc_any _ (z, l) _ (HM.out.later HB1.out.drew (Nat.le_refl _)) _ _ _ (acc_ask _) HK.out (by show l.length ≤ 60; rw [HN.out]; exact H60.out) _ HA.out).mono ?_
    rintro e w2 ⟨rfl, hb2⟩
    have HL2 : Below w1.heap.size w1 w2 := below_undrew hb2
    have HB2 : Below w.heap.size w w2 := HB1.out.trans (HL2.mono HB1.out.size)
    have HS2 : HeldN w.heap.size z (.slice a n cap) w2 := ⟨(K0.out.below HL2 (by omega)).cell 0 rfl, (K0.out.below HL2 (by omega)).cell 1 rfl⟩
    refine hK _ _ (.inr HS2) ?_
    try simp only [Act.put, List.setIfInBounds_toArray, List.set_cons_zero, List.set_cons_succ]
    refine anyL_take (i := 4) (v := ?v4_6) (atS (atS (atS (atS at0)))) (by kernel_rfl) (by kernel_rfl) (by kernel_rfl) (by kernel_rfl) (fun _ _ _ h => h) rfl ?y4_6 HS2 ?r4_6
    case y4_6 => intro wx hx; obtain ⟨h1, h2⟩ := hx; go_simp; try (with_reducible rfl)
    simp only [Act.put, List.setIfInBounds_toArray, List.set_cons_zero, List.set_cons_succ]
    refine anyL_skip (i := 5) (atS (atS (atS (atS (atS at0))))) (by kernel_rfl) (by kernel_rfl) (by kernel_rfl) (by kernel_rfl) (fun _ _ _ h => h) (by rfl) HS2 ?_
    try simp only [Act.put, List.setIfInBounds_toArray, List.set_cons_zero, List.set_cons_succ]
    refine anyL_skip (i := 6) (atS (atS (atS (atS (atS (atS at0)))))) (by kernel_rfl) (by kernel_rfl) (by kernel_rfl) (by kernel_rfl) (fun _ _ _ h => h) (by rfl) HS2 ?_
    try simp only [Act.put, List.setIfInBounds_toArray, List.set_cons_zero, List.set_cons_succ]
    refine anyL_take (i := 7) (v := ?v7_7) (atS (atS (atS (atS (atS (atS (atS at0))))))) (by kernel_rfl) (by kernel_rfl) (by kernel_rfl) (by kernel_rfl) (fun _ _ _ h => h) rfl ?y7_7 HS2 ?r7_7
    case y7_7 => intro wx hx; obtain ⟨h1, h2⟩ := hx; go_simp; try (with_reducible rfl)
    simp only [Act.put, List.setIfInBounds_toArray, List.set_cons_zero, List.set_cons_succ]
    refine anyL_one (i := 9) (atS (atS (atS (atS (atS (atS (atS (atS (atS at0))))))))) (by kernel_rfl) rfl (fun K hK => ?_)
    go_simp
    refine (everyState_any _ (z, l) _ (HM.out.later HB2 (Nat.le_refl _)) _ _ _ (isInOrder_ask l _ HL.out) (by show l.length ≤ 60; rw [HN.out]; exact H60.out) _ HSo.out).mono ?_
    rintro e w3 ⟨rfl, hb3⟩
    have HL3 : Below w1.heap.size w1 w3 := HL2.trans (hb3.mono HL2.size)
    have HB3 : Below w.heap.size w w3 := HB1.out.trans (HL3.mono HB1.out.size)
    have HS3 : HeldN w.heap.size z (.slice a n cap) w3 := ⟨(K0.out.below HL3 (by omega)).cell 0 rfl, (K0.out.below HL3 (by omega)).cell 1 rfl⟩
    refine hK _ _ (.inr HS3) ?_
    try simp only [Act.put, List.setIfInBounds_toArray, List.set_cons_zero, List.set_cons_succ]
    refine anyL_one (i := 11) (atS (atS (atS (atS (atS (atS (atS (atS (atS (atS (atS at0))))))))))) (by kernel_rfl) rfl (fun K hK => ?_)
    go_simp
    refine (everyArc_any _ (z, l) _ (HM.out.later HB3 (Nat.le_refl _)) _ _ _ (free_ask _) HK.out (by show l.length ≤ 60; rw [HN.out]; exact H60.out) _ HFr.out).mono ?_
    rintro e w4 ⟨rfl, hb4⟩
    have HL4 : Below w1.heap.size w1 w4 := HL3.trans (hb4.mono HL3.size)
    have HB4 : Below w.heap.size w w4 := HB1.out.trans (HL4.mono HB1.out.size)
    have HS4 : HeldN w.heap.size z (.slice a n cap) w4 := ⟨(K0.out.below HL4 (by omega)).cell 0 rfl, (K0.out.below HL4 (by omega)).cell 1 rfl⟩
    refine hK _ _ (.inr HS4) ?_
    try simp only [Act.put, List.setIfInBounds_toArray, List.set_cons_zero, List.set_cons_succ]
    refine anyL_take (i := 12) (v := ?v12_8) (atS (atS (atS (atS (atS (atS (atS (atS (atS (atS (atS (atS at0)))))))))))) (by kernel_rfl) (by kernel_rfl) (by kernel_rfl) (by kernel_rfl) (fun _ _ _ h => h) rfl ?y12_8 HS4 ?r12_8
    case y12_8 => intro wx hx; obtain ⟨h1, h2⟩ := hx; go_simp; try (with_reducible rfl)
    simp only [Act.put, List.setIfInBounds_toArray, List.set_cons_zero, List.set_cons_succ]
    refine anyL_skip (i := 13) (atS (atS (atS (atS (atS (atS (atS (atS (atS (atS (atS (atS (atS at0))))))))))))) (by kernel_rfl) (by kernel_rfl) (by kernel_rfl) (by kernel_rfl) (fun _ _ _ h => h) (by rfl) HS4 ?_
    try simp only [Act.put, List.setIfInBounds_toArray, List.set_cons_zero, List.set_cons_succ]
    refine anyL_skip (i := 14) (atS (atS (atS (atS (atS (atS (atS (atS (atS (atS (atS (atS (atS (atS at0)))))))))))))) (by kernel_rfl) (by kernel_rfl) (by kernel_rfl) (by kernel_rfl) (fun _ _ _ h => h) (by rfl) HS4 ?_
    try simp only [Act.put, List.setIfInBounds_toArray, List.set_cons_zero, List.set_cons_succ]
    refine anyL_take (i := 15) (v := ?v15_9) (atS (atS (atS (atS (atS (atS (atS (atS (atS (atS (atS (atS (atS (atS (atS at0))))))))))))))) (by kernel_rfl) (by kernel_rfl) (by kernel_rfl) (by kernel_rfl) (fun _ _ _ h => h) rfl ?y15_9 HS4 ?r15_9
    case y15_9 => intro wx hx; obtain ⟨h1, h2⟩ := hx; go_simp; try (with_reducible rfl)
    simp only [Act.put, List.setIfInBounds_toArray, List.set_cons_zero, List.set_cons_succ]
    refine anyL_take (i := 16) (v := ?v16_10) (atS (atS (atS (atS (atS (atS (atS (atS (atS (atS (atS (atS (atS (atS (atS (atS at0)))))))))))))))) (by kernel_rfl) (by kernel_rfl) (by kernel_rfl) (by kernel_rfl) (fun _ _ _ h => h) rfl ?y16_10 HS4 ?r16_10
    case y16_10 => intro wx hx; obtain ⟨h1, h2⟩ := hx; go_simp; try (with_reducible rfl)
    simp only [Act.put, List.setIfInBounds_toArray, List.set_cons_zero, List.set_cons_succ]
    have K3 := K1.out.below HL4 (by omega)
    have e0 := K3.cell 0 (v := .bool false) rfl
    have f0 := K3.fz 0
    have e1 := K3.cell 1 (v := .bool false) rfl
    have f1 := K3.fz 1
    have e2 := K3.cell 2 (v := .bool false) rfl
    have f2 := K3.fz 2
    have e3 := K3.cell 3 (v := .bool false) rfl
    have f3 := K3.fz 3
    have e4 := K3.cell 4 (v := .bool false) rfl
    have f4 := K3.fz 4
    have q0 := HS4.1
    have q1 := HS4.2
    refine anyL_one (i := 17) (atS (atS (atS (atS (atS (atS (atS (atS (atS (atS (atS (atS (atS (atS (atS (atS (atS at0))))))))))))))))) (by kernel_rfl) rfl (fun K hK => ?_)
    go_simp
    refine hK _ _ (.inr ⟨by go_cell, by go_cell⟩) ?_
    try simp only [Act.put, List.setIfInBounds_toArray, List.set_cons_zero, List.set_cons_succ]
    refine anyL_one (i := 18) (atS (atS (atS (atS (atS (atS (atS (atS (atS (atS (atS (atS (atS (atS (atS (atS (atS (atS at0)))))))))))))))))) (by kernel_rfl) rfl (fun K hK => ?_)
    go_simp
    refine hK _ _ (.inr ⟨by go_cell, by go_cell⟩) (anyL_done (by kernel_rfl) (NoPanic.normal ?_))
    try simp only [Act.put, List.setIfInBounds_toArray, List.set_cons_zero, List.set_cons_succ]
    go_wp2
    exact bodyPost_ret (v := .tuple #[.agg #[.bool rA, .bool false, .bool false, .bool rS, .bool false], .int .i64 0]) (by simp [results, Try.results11, go_sem, *]) rfl ⟨rfl, by (have h := HB4); go_grown⟩
  · go_enter Try.func11, Try.ntmps11
    go_wp2_with (first
      | (go_at_call 16; (with_reducible refine (coreCheck_any _ (z, l) _ (HM.out.later (B := w.heap.size) (by go_grown) (Nat.le_refl _)) HK.out _ HF0.out).mono ?_); rintro e w0 ⟨rfl, hb⟩; obtain ⟨s0, k0, k1, hb1⟩ := boxed2 hb (by simp); have c0 := k0.cell 0 (v := .int .i64 z) rfl; have c1 := k0.cell 1 (v := .slice a n cap) rfl; have HB0 : Hid (Below w.heap.size w w0) := hb1; have J0 : Hid (Blk w0 w.heap.size #[.int .i64 z, .slice a n cap] 24) := k0; have J1 : Hid (Blk w0 (w.heap.size + 1) #[.bool false, .bool false, .bool false, .bool false, .bool false] 37) := k1; clear hb hb1 k0 k1)
      | (go_at_call 29; (with_reducible refine (everyArc_any _ (z, l) _ (HM.out.later HB0.out (Nat.le_refl _)) _ _ _ (full_ask _) HK.out (by show l.length ≤ 60; rw [HN.out]; exact H60.out) _ HF.out).mono ?_); rintro e w1 ⟨rfl, hb⟩; have HB1 : Hid (Below w.heap.size w w1) := HB0.out.trans (hb.mono HB0.out.size); have K0 : Hid (Blk w1 w.heap.size #[.int .i64 z, .slice a n cap] 24) := J0.out.below hb (by omega); have K1 : Hid (Blk w1 (w.heap.size + 1) #[.bool false, .bool false, .bool false, .bool false, .bool false] 37) := J1.out.below hb (by omega); have s1 : w.heap.size + 2 ≤ w1.heap.size := Nat.le_trans s0 hb.size; clear hb))
    refine region_anyL (HeldN w.heap.size z (.slice a n cap)) 1000 (by kernel_rfl) ?_
    have HS1 : HeldN w.heap.size z (.slice a n cap) w1.drew := ⟨K0.out.cell 0 rfl, K0.out.cell 1 rfl⟩
    refine anyL_take (i := 0) (v := ?v0_11) at0 (by kernel_rfl) (by kernel_rfl) (by kernel_rfl) (by kernel_rfl) (fun _ _ _ h => h) rfl ?y0_11 HS1 ?r0_11
    case y0_11 => intro wx hx; obtain ⟨h1, h2⟩ := hx; go_simp; try (with_reducible rfl)
    simp only [Act.put, List.setIfInBounds_toArray, List.set_cons_zero, List.set_cons_succ]
    refine anyL_take (i := 2) (v := ?v2_12) (atS (atS at0)) (by kernel_rfl) (by kernel_rfl) (by kernel_rfl) (by kernel_rfl) (fun _ _ _ h => h) rfl ?y2_12 HS1 ?r2_12
    case y2_12 => intro wx hx; obtain ⟨h1, h2⟩ := hx; go_simp; try (with_reducible rfl)
    simp only [Act.put, List.setIfInBounds_toArray, List.set_cons_zero, List.set_cons_succ]
    refine anyL_take (i := 3) (v := ?v3_13) (atS (atS (atS at0))) (by kernel_rfl) (by kernel_rfl) (by kernel_rfl) (by kernel_rfl) (fun _ _ _ h => h) rfl ?y3_13 HS1 ?r3_13
    case y3_13 => intro wx hx; obtain ⟨h1, h2⟩ := hx; go_simp; try (with_reducible rfl)
    simp only [Act.put, List.setIfInBounds_toArray, List.set_cons_zero, List.set_cons_succ]
    refine anyL_take (i := 8) (v := ?v8_14) (atS (atS (atS (atS (atS (atS (atS (atS at0)))))))) (by kernel_rfl) (by kernel_rfl) (by kernel_rfl) (by kernel_rfl) (fun _ _ _ h => h) rfl ?y8_14 HS1 ?r8_14
    case y8_14 => intro wx hx; obtain ⟨h1, h2⟩ := hx; go_simp; try (with_reducible rfl)
    simp only [Act.put, List.setIfInBounds_toArray, List.set_cons_zero, List.set_cons_succ]
    refine anyL_take (i := 10) (v := ?v10_15) (atS (atS (atS (atS (atS (atS (atS (atS (atS (atS at0)))))))))) (by kernel_rfl) (by kernel_rfl) (by kernel_rfl) (by kernel_rfl) (fun _ _ _ h => h) rfl ?y10_15 HS1 ?r10_15
    case y10_15 => intro wx hx; obtain ⟨h1, h2⟩ := hx; go_simp; try (with_reducible rfl)
    simp only [Act.put, List.setIfInBounds_toArray, List.set_cons_zero, List.set_cons_succ]
    refine anyL_one (i := 1) (atS at0) (by kernel_rfl) rfl (fun K hK => ?_)
    go_simp
    refine (everyArc_any _ (z, l) _ (HM.out.later HB1.out.drew (Nat.le_refl _)) _ _ _ (acc_ask _) HK.out (by show l.length ≤ 60; rw [HN.out]; exact H60.out) _ HA.out).mono ?_
    rintro e w2 ⟨rfl, hb2⟩
    have HL2 : Below w1.heap.size w1 w2 := below_undrew hb2
    have HB2 : Below w.heap.size w w2 := HB1.out.trans (HL2.mono HB1.out.size)
    have HS2 : HeldN w.heap.size z (.slice a n cap) w2 := ⟨(K0.out.below HL2 (by omega)).cell 0 rfl, (K0.out.below HL2 (by omega)).cell 1 rfl⟩
    refine hK _ _ (.inr HS2) ?_
    try simp only [Act.put, List.setIfInBounds_toArray, List.set_cons_zero, List.set_cons_succ]
    refine anyL_take (i := 4) (v := ?v4_16) (atS (atS (atS (atS at0)))) (by kernel_rfl) (by kernel_rfl) (by kernel_rfl) (by kernel_rfl) (fun _ _ _ h => h) rfl ?y4_16 HS2 ?r4_16
    case y4_16 => intro wx hx; obtain ⟨h1, h2⟩ := hx; go_simp; try (with_reducible rfl)
    simp only [Act.put, List.setIfInBounds_toArray, List.set_cons_zero, List.set_cons_succ]
    refine anyL_skip (i := 5) (atS (atS (atS (atS (atS at0))))) (by kernel_rfl) (by kernel_rfl) (by kernel_rfl) (by kernel_rfl) (fun _ _ _ h => h) (by rfl) HS2 ?_
    try simp only [Act.put, List.setIfInBounds_toArray, List.set_cons_zero, List.set_cons_succ]
    refine anyL_skip (i := 6) (atS (atS (atS (atS (atS (atS at0)))))) (by kernel_rfl) (by kernel_rfl) (by kernel_rfl) (by kernel_rfl) (fun _ _ _ h => h) (by rfl) HS2 ?_
    try simp only [Act.put, List.setIfInBounds_toArray, List.set_cons_zero, List.set_cons_succ]
    refine anyL_take (i := 7) (v := ?v7_17) (atS (atS (atS (atS (atS (atS (atS at0))))))) (by kernel_rfl) (by kernel_rfl) (by kernel_rfl) (by kernel_rfl) (fun _ _ _ h => h) rfl ?y7_17 HS2 ?r7_17
    case y7_17 => intro wx hx; obtain ⟨h1, h2⟩ := hx; go_simp; try (with_reducible rfl)
    simp only [Act.put, List.setIfInBounds_toArray, List.set_cons_zero, List.set_cons_succ]
    refine anyL_one (i := 9) (atS (atS (atS (atS (atS (atS (atS (atS (atS at0))))))))) (by kernel_rfl) rfl (fun K hK => ?_)
    go_simp
    refine (everyState_any _ (z, l) _ (HM.out.later HB2 (Nat.le_refl _)) _ _ _ (isInOrder_ask l _ HL.out) (by show l.length ≤ 60; rw [HN.out]; exact H60.out) _ HSo.out).mono ?_
    rintro e w3 ⟨rfl, hb3⟩
    have HL3 : Below w1.heap.size w1 w3 := HL2.trans (hb3.mono HL2.size)
    have HB3 : Below w.heap.size w w3 := HB1.out.trans (HL3.mono HB1.out.size)
    have HS3 : HeldN w.heap.size z (.slice a n cap) w3 := ⟨(K0.out.below HL3 (by omega)).cell 0 rfl, (K0.out.below HL3 (by omega)).cell 1 rfl⟩
    refine hK _ _ (.inr HS3) ?_
    try simp only [Act.put, List.setIfInBounds_toArray, List.set_cons_zero, List.set_cons_succ]
    refine anyL_one (i := 11) (atS (atS (atS (atS (atS (atS (atS (atS (atS (atS (atS at0))))))))))) (by kernel_rfl) rfl (fun K hK => ?_)
    go_simp
    refine (everyArc_any _ (z, l) _ (HM.out.later HB3 (Nat.le_refl _)) _ _ _ (free_ask _) HK.out (by show l.length ≤ 60; rw [HN.out]; exact H60.out) _ HFr.out).mono ?_
    rintro e w4 ⟨rfl, hb4⟩
    have HL4 : Below w1.heap.size w1 w4 := HL3.trans (hb4.mono HL3.size)
    have HB4 : Below w.heap.size w w4 := HB1.out.trans (HL4.mono HB1.out.size)
    have HS4 : HeldN w.heap.size z (.slice a n cap) w4 := ⟨(K0.out.below HL4 (by omega)).cell 0 rfl, (K0.out.below HL4 (by omega)).cell 1 rfl⟩
    refine hK _ _ (.inr HS4) ?_
    try simp only [Act.put, List.setIfInBounds_toArray, List.set_cons_zero, List.set_cons_succ]
    refine anyL_take (i := 12) (v := ?v12_18) (atS (atS (atS (atS (atS (atS (atS (atS (atS (atS (atS (atS at0)))))))))))) (by kernel_rfl) (by kernel_rfl) (by kernel_rfl) (by kernel_rfl) (fun _ _ _ h => h) rfl ?y12_18 HS4 ?r12_18
    case y12_18 => intro wx hx; obtain ⟨h1, h2⟩ := hx; go_simp; try (with_reducible rfl)
    simp only [Act.put, List.setIfInBounds_toArray, List.set_cons_zero, List.set_cons_succ]
    refine anyL_takeG (i := 13) (v := ?v13_61) (atS (atS (atS (atS (atS (atS (atS (atS (atS (atS (atS (atS (atS at0))))))))))))) (by kernel_rfl) (by kernel_rfl) (by kernel_rfl) (by kernel_rfl) (fun _ _ _ h => h) (by rfl) ?y13_61 HS4 ?r13_61
    case y13_61 => intro wx hx; obtain ⟨h1, h2⟩ := hx; go_simp; try (with_reducible rfl)
    simp only [Act.put, List.setIfInBounds_toArray, List.set_cons_zero, List.set_cons_succ]
    refine anyL_oneG (i := 14) (atS (atS (atS (atS (atS (atS (atS (atS (atS (atS (atS (atS (atS (atS at0)))))))))))))) (by kernel_rfl) (by rfl) (fun K hK => ?_)
    go_simp
    refine (everyState_any _ (z, l) _ (HM.out.later HB4 (Nat.le_refl _)) _ _ _ (ends_ask l _) (by show l.length ≤ 60; rw [HN.out]; exact H60.out) _ HE.out).mono ?_
    rintro e w5 ⟨rfl, hb5⟩
    have HL5 : Below w1.heap.size w1 w5 := HL4.trans (hb5.mono HL4.size)
    have HB5 : Below w.heap.size w w5 := HB1.out.trans (HL5.mono HB1.out.size)
    have HS5 : HeldN w.heap.size z (.slice a n cap) w5 := ⟨(K0.out.below HL5 (by omega)).cell 0 rfl, (K0.out.below HL5 (by omega)).cell 1 rfl⟩
    refine hK _ _ (.inr HS5) ?_
    try simp only [Act.put, List.setIfInBounds_toArray, List.set_cons_zero, List.set_cons_succ]
    refine anyL_take (i := 15) (v := ?v15_19) (atS (atS (atS (atS (atS (atS (atS (atS (atS (atS (atS (atS (atS (atS (atS at0))))))))))))))) (by kernel_rfl) (by kernel_rfl) (by kernel_rfl) (by kernel_rfl) (fun _ _ _ h => h) rfl ?y15_19 HS5 ?r15_19
    case y15_19 => intro wx hx; obtain ⟨h1, h2⟩ := hx; go_simp; try (with_reducible rfl)
    simp only [Act.put, List.setIfInBounds_toArray, List.set_cons_zero, List.set_cons_succ]
    refine anyL_take (i := 16) (v := ?v16_20) (atS (atS (atS (atS (atS (atS (atS (atS (atS (atS (atS (atS (atS (atS (atS (atS at0)))))))))))))))) (by kernel_rfl) (by kernel_rfl) (by kernel_rfl) (by kernel_rfl) (fun _ _ _ h => h) rfl ?y16_20 HS5 ?r16_20
    case y16_20 => intro wx hx; obtain ⟨h1, h2⟩ := hx; go_simp; try (with_reducible rfl)
    simp only [Act.put, List.setIfInBounds_toArray, List.set_cons_zero, List.set_cons_succ]
    have K3 := K1.out.below HL5 (by omega)
    have e0 := K3.cell 0 (v := .bool false) rfl
    have f0 := K3.fz 0
    have e1 := K3.cell 1 (v := .bool false) rfl
    have f1 := K3.fz 1
    have e2 := K3.cell 2 (v := .bool false) rfl
    have f2 := K3.fz 2
    have e3 := K3.cell 3 (v := .bool false) rfl
    have f3 := K3.fz 3
    have e4 := K3.cell 4 (v := .bool false) rfl
    have f4 := K3.fz 4
    have q0 := HS5.1
    have q1 := HS5.2
    refine anyL_one (i := 17) (atS (atS (atS (atS (atS (atS (atS (atS (atS (atS (atS (atS (atS (atS (atS (atS (atS at0))))))))))))))))) (by kernel_rfl) rfl (fun K hK => ?_)
    go_simp
    refine hK _ _ (.inr ⟨by go_cell, by go_cell⟩) ?_
    try simp only [Act.put, List.setIfInBounds_toArray, List.set_cons_zero, List.set_cons_succ]
    refine anyL_one (i := 18) (atS (atS (atS (atS (atS (atS (atS (atS (atS (atS (atS (atS (atS (atS (atS (atS (atS (atS at0)))))))))))))))))) (by kernel_rfl) rfl (fun K hK => ?_)
    go_simp
    refine hK _ _ (.inr ⟨by go_cell, by go_cell⟩) (anyL_done (by kernel_rfl) (NoPanic.normal ?_))
    try simp only [Act.put, List.setIfInBounds_toArray, List.set_cons_zero, List.set_cons_succ]
    go_wp2
    exact bodyPost_ret (v := .tuple #[.agg #[.bool rA, .bool false, .bool false, .bool rS, .bool rE], .int .i64 0]) (by simp [results, Try.results11, go_sem, *]) rfl ⟨rfl, by (have h := HB5); go_grown⟩
  · go_enter Try.func11, Try.ntmps11
    go_wp2_with (first
      | (go_at_call 16; (with_reducible refine (coreCheck_any _ (z, l) _ (HM.out.later (B := w.heap.size) (by go_grown) (Nat.le_refl _)) HK.out _ HF0.out).mono ?_); rintro e w0 ⟨rfl, hb⟩; obtain ⟨s0, k0, k1, hb1⟩ := boxed2 hb (by simp); have c0 := k0.cell 0 (v := .int .i64 z) rfl; have c1 := k0.cell 1 (v := .slice a n cap) rfl; have HB0 : Hid (Below w.heap.size w w0) := hb1; have J0 : Hid (Blk w0 w.heap.size #[.int .i64 z, .slice a n cap] 24) := k0; have J1 : Hid (Blk w0 (w.heap.size + 1) #[.bool false, .bool false, .bool false, .bool false, .bool false] 37) := k1; clear hb hb1 k0 k1)
      | (go_at_call 29; (with_reducible refine (everyArc_any _ (z, l) _ (HM.out.later HB0.out (Nat.le_refl _)) _ _ _ (full_ask _) HK.out (by show l.length ≤ 60; rw [HN.out]; exact H60.out) _ HF.out).mono ?_); rintro e w1 ⟨rfl, hb⟩; have HB1 : Hid (Below w.heap.size w w1) := HB0.out.trans (hb.mono HB0.out.size); have K0 : Hid (Blk w1 w.heap.size #[.int .i64 z, .slice a n cap] 24) := J0.out.below hb (by omega); have K1 : Hid (Blk w1 (w.heap.size + 1) #[.bool false, .bool false, .bool false, .bool false, .bool false] 37) := J1.out.below hb (by omega); have s1 : w.heap.size + 2 ≤ w1.heap.size := Nat.le_trans s0 hb.size; clear hb))
    refine region_anyL (HeldN w.heap.size z (.slice a n cap)) 1000 (by kernel_rfl) ?_
    have HS1 : HeldN w.heap.size z (.slice a n cap) w1.drew := ⟨K0.out.cell 0 rfl, K0.out.cell 1 rfl⟩
    refine anyL_take (i := 0) (v := ?v0_21) at0 (by kernel_rfl) (by kernel_rfl) (by kernel_rfl) (by kernel_rfl) (fun _ _ _ h => h) rfl ?y0_21 HS1 ?r0_21
    case y0_21 => intro wx hx; obtain ⟨h1, h2⟩ := hx; go_simp; try (with_reducible rfl)
    simp only [Act.put, List.setIfInBounds_toArray, List.set_cons_zero, List.set_cons_succ]
    refine anyL_take (i := 2) (v := ?v2_22) (atS (atS at0)) (by kernel_rfl) (by kernel_rfl) (by kernel_rfl) (by kernel_rfl) (fun _ _ _ h => h) rfl ?y2_22 HS1 ?r2_22
    case y2_22 => intro wx hx; obtain ⟨h1, h2⟩ := hx; go_simp; try (with_reducible rfl)
    simp only [Act.put, List.setIfInBounds_toArray, List.set_cons_zero, List.set_cons_succ]
    refine anyL_take (i := 3) (v := ?v3_23) (atS (atS (atS at0))) (by kernel_rfl) (by kernel_rfl) (by kernel_rfl) (by kernel_rfl) (fun _ _ _ h => h) rfl ?y3_23 HS1 ?r3_23
    case y3_23 => intro wx hx; obtain ⟨h1, h2⟩ := hx; go_simp; try (with_reducible rfl)
    simp only [Act.put, List.setIfInBounds_toArray, List.set_cons_zero, List.set_cons_succ]
    refine anyL_take (i := 8) (v := ?v8_24) (atS (atS (atS (atS (atS (atS (atS (atS at0)))))))) (by kernel_rfl) (by kernel_rfl) (by kernel_rfl) (by kernel_rfl) (fun _ _ _ h => h) rfl ?y8_24 HS1 ?r8_24
    case y8_24 => intro wx hx; obtain ⟨h1, h2⟩ := hx; go_simp; try (with_reducible rfl)
    simp only [Act.put, List.setIfInBounds_toArray, List.set_cons_zero, List.set_cons_succ]
    refine anyL_take (i := 10) (v := ?v10_25) (atS (atS (atS (atS (atS (atS (atS (atS (atS (atS at0)))))))))) (by kernel_rfl) (by kernel_rfl) (by kernel_rfl) (by kernel_rfl) (fun _ _ _ h => h) rfl ?y10_25 HS1 ?r10_25
    case y10_25 => intro wx hx; obtain ⟨h1, h2⟩ := hx; go_simp; try (with_reducible rfl)
    simp only [Act.put, List.setIfInBounds_toArray, List.set_cons_zero, List.set_cons_succ]
    refine anyL_one (i := 1) (atS at0) (by kernel_rfl) rfl (fun K hK => ?_)
    go_simp
    refine (everyArc_any _ (z, l) _ (HM.out.later HB1.out.drew (Nat.le_refl _)) _ _ _ (acc_ask _) HK.out (by show l.length ≤ 60; rw [HN.out]; exact H60.out) _ HA.out).mono ?_
    rintro e w2 ⟨rfl, hb2⟩
    have HL2 : Below w1.heap.size w1 w2 := below_undrew hb2
    have HB2 : Below w.heap.size w w2 := HB1.out.trans (HL2.mono HB1.out.size)
    have HS2 : HeldN w.heap.size z (.slice a n cap) w2 := ⟨(K0.out.below HL2 (by omega)).cell 0 rfl, (K0.out.below HL2 (by omega)).cell 1 rfl⟩
    refine hK _ _ (.inr HS2) ?_
    try simp only [Act.put, List.setIfInBounds_toArray, List.set_cons_zero, List.set_cons_succ]
    refine anyL_take (i := 4) (v := ?v4_26) (atS (atS (atS (atS at0)))) (by kernel_rfl) (by kernel_rfl) (by kernel_rfl) (by kernel_rfl) (fun _ _ _ h => h) rfl ?y4_26 HS2 ?r4_26
    case y4_26 => intro wx hx; obtain ⟨h1, h2⟩ := hx; go_simp; try (with_reducible rfl)
    simp only [Act.put, List.setIfInBounds_toArray, List.set_cons_zero, List.set_cons_succ]
    refine anyL_takeG (i := 5) (v := ?v5_62) (atS (atS (atS (atS (atS at0))))) (by kernel_rfl) (by kernel_rfl) (by kernel_rfl) (by kernel_rfl) (fun _ _ _ h => h) (by rfl) ?y5_62 HS2 ?r5_62
    case y5_62 => intro wx hx; obtain ⟨h1, h2⟩ := hx; go_simp; try (with_reducible rfl)
    simp only [Act.put, List.setIfInBounds_toArray, List.set_cons_zero, List.set_cons_succ]
    refine anyL_oneG (i := 6) (atS (atS (atS (atS (atS (atS at0)))))) (by kernel_rfl) (by rfl) (fun K hK => ?_)
    go_simp
    refine (everyState_any _ (z, l) _ (HM.out.later HB2 (Nat.le_refl _)) _ _ _ (hasOnce_ask l _ HR.out) (by show l.length ≤ 60; rw [HN.out]; exact H60.out) _ HC.out).mono ?_
    rintro e w3 ⟨rfl, hb3⟩
    have HL3 : Below w1.heap.size w1 w3 := HL2.trans (hb3.mono HL2.size)
    have HB3 : Below w.heap.size w w3 := HB1.out.trans (HL3.mono HB1.out.size)
    have HS3 : HeldN w.heap.size z (.slice a n cap) w3 := ⟨(K0.out.below HL3 (by omega)).cell 0 rfl, (K0.out.below HL3 (by omega)).cell 1 rfl⟩
    refine hK _ _ (.inr HS3) ?_
    try simp only [Act.put, List.setIfInBounds_toArray, List.set_cons_zero, List.set_cons_succ]
    refine anyL_take (i := 7) (v := ?v7_27) (atS (atS (atS (atS (atS (atS (atS at0))))))) (by kernel_rfl) (by kernel_rfl) (by kernel_rfl) (by kernel_rfl) (fun _ _ _ h => h) rfl ?y7_27 HS3 ?r7_27
    case y7_27 => intro wx hx; obtain ⟨h1, h2⟩ := hx; go_simp; try (with_reducible rfl)
    simp only [Act.put, List.setIfInBounds_toArray, List.set_cons_zero, List.set_cons_succ]
    refine anyL_one (i := 9) (atS (atS (atS (atS (atS (atS (atS (atS (atS at0))))))))) (by kernel_rfl) rfl (fun K hK => ?_)
    go_simp
    refine (everyState_any _ (z, l) _ (HM.out.later HB3 (Nat.le_refl _)) _ _ _ (isInOrder_ask l _ HL.out) (by show l.length ≤ 60; rw [HN.out]; exact H60.out) _ HSo.out).mono ?_
    rintro e w4 ⟨rfl, hb4⟩
    have HL4 : Below w1.heap.size w1 w4 := HL3.trans (hb4.mono HL3.size)
    have HB4 : Below w.heap.size w w4 := HB1.out.trans (HL4.mono HB1.out.size)
    have HS4 : HeldN w.heap.size z (.slice a n cap) w4 := ⟨(K0.out.below HL4 (by omega)).cell 0 rfl, (K0.out.below HL4 (by omega)).cell 1 rfl⟩
    refine hK _ _ (.inr HS4) ?_
    try simp only [Act.put, List.setIfInBounds_toArray, List.set_cons_zero, List.set_cons_succ]
    refine anyL_one (i := 11) (atS (atS (atS (atS (atS (atS (atS (atS (atS (atS (atS at0))))))))))) (by kernel_rfl) rfl (fun K hK => ?_)
    go_simp
    refine (everyArc_any _ (z, l) _ (HM.out.later HB4 (Nat.le_refl _)) _ _ _ (free_ask _) HK.out (by show l.length ≤ 60; rw [HN.out]; exact H60.out) _ HFr.out).mono ?_
    rintro e w5 ⟨rfl, hb5⟩
    have HL5 : Below w1.heap.size w1 w5 := HL4.trans (hb5.mono HL4.size)
    have HB5 : Below w.heap.size w w5 := HB1.out.trans (HL5.mono HB1.out.size)
    have HS5 : HeldN w.heap.size z (.slice a n cap) w5 := ⟨(K0.out.below HL5 (by omega)).cell 0 rfl, (K0.out.below HL5 (by omega)).cell 1 rfl⟩
    refine hK _ _ (.inr HS5) ?_
    try simp only [Act.put, List.setIfInBounds_toArray, List.set_cons_zero, List.set_cons_succ]
    refine anyL_take (i := 12) (v := ?v12_28) (atS (atS (atS (atS (atS (atS (atS (atS (atS (atS (atS (atS at0)))))))))))) (by kernel_rfl) (by kernel_rfl) (by kernel_rfl) (by kernel_rfl) (fun _ _ _ h => h) rfl ?y12_28 HS5 ?r12_28
    case y12_28 => intro wx hx; obtain ⟨h1, h2⟩ := hx; go_simp; try (with_reducible rfl)
    simp only [Act.put, List.setIfInBounds_toArray, List.set_cons_zero, List.set_cons_succ]
    refine anyL_skip (i := 13) (atS (atS (atS (atS (atS (atS (atS (atS (atS (atS (atS (atS (atS at0))))))))))))) (by kernel_rfl) (by kernel_rfl) (by kernel_rfl) (by kernel_rfl) (fun _ _ _ h => h) (by rfl) HS5 ?_
    try simp only [Act.put, List.setIfInBounds_toArray, List.set_cons_zero, List.set_cons_succ]
    refine anyL_skip (i := 14) (atS (atS (atS (atS (atS (atS (atS (atS (atS (atS (atS (atS (atS (atS at0)))))))))))))) (by kernel_rfl) (by kernel_rfl) (by kernel_rfl) (by kernel_rfl) (fun _ _ _ h => h) (by rfl) HS5 ?_
    try simp only [Act.put, List.setIfInBounds_toArray, List.set_cons_zero, List.set_cons_succ]
    refine anyL_take (i := 15) (v := ?v15_29) (atS (atS (atS (atS (atS (atS (atS (atS (atS (atS (atS (atS (atS (atS (atS at0))))))))))))))) (by kernel_rfl) (by kernel_rfl) (by kernel_rfl) (by kernel_rfl) (fun _ _ _ h => h) rfl ?y15_29 HS5 ?r15_29
    case y15_29 => intro wx hx; obtain ⟨h1, h2⟩ := hx; go_simp; try (with_reducible rfl)
    simp only [Act.put, List.setIfInBounds_toArray, List.set_cons_zero, List.set_cons_succ]
    refine anyL_take (i := 16) (v := ?v16_30) (atS (atS (atS (atS (atS (atS (atS (atS (atS (atS (atS (atS (atS (atS (atS (atS at0)))))))))))))))) (by kernel_rfl) (by kernel_rfl) (by kernel_rfl) (by kernel_rfl) (fun _ _ _ h => h) rfl ?y16_30 HS5 ?r16_30
    case y16_30 => intro wx hx; obtain ⟨h1, h2⟩ := hx; go_simp; try (with_reducible rfl)
    simp only [Act.put, List.setIfInBounds_toArray, List.set_cons_zero, List.set_cons_succ]
    have K3 := K1.out.below HL5 (by omega)
    have e0 := K3.cell 0 (v := .bool false) rfl
    have f0 := K3.fz 0
    have e1 := K3.cell 1 (v := .bool false) rfl
    have f1 := K3.fz 1
    have e2 := K3.cell 2 (v := .bool false) rfl
    have f2 := K3.fz 2
    have e3 := K3.cell 3 (v := .bool false) rfl
    have f3 := K3.fz 3
    have e4 := K3.cell 4 (v := .bool false) rfl
    have f4 := K3.fz 4
    have q0 := HS5.1
    have q1 := HS5.2
    refine anyL_one (i := 17) (atS (atS (atS (atS (atS (atS (atS (atS (atS (atS (atS (atS (atS (atS (atS (atS (atS at0))))))))))))))))) (by kernel_rfl) rfl (fun K hK => ?_)
    go_simp
    refine hK _ _ (.inr ⟨by go_cell, by go_cell⟩) ?_
    try simp only [Act.put, List.setIfInBounds_toArray, List.set_cons_zero, List.set_cons_succ]
    refine anyL_one (i := 18) (atS (atS (atS (atS (atS (atS (atS (atS (atS (atS (atS (atS (atS (atS (atS (atS (atS (atS at0)))))))))))))))))) (by kernel_rfl) rfl (fun K hK => ?_)
    go_simp
    refine hK _ _ (.inr ⟨by go_cell, by go_cell⟩) (anyL_done (by kernel_rfl) (NoPanic.normal ?_))
    try simp only [Act.put, List.setIfInBounds_toArray, List.set_cons_zero, List.set_cons_succ]
    go_wp2
    exact bodyPost_ret (v := .tuple #[.agg #[.bool rA, .bool true, .bool rC, .bool rS, .bool false], .int .i64 0]) (by simp [results, Try.results11, go_sem, *]) rfl ⟨rfl, by (have h := HB5); go_grown⟩
  · go_enter Try.func11, Try.ntmps11
    go_wp2_with (first
      | (go_at_call 16; (with_reducible refine (coreCheck_any _ (z, l) _ (HM.out.later (B := w.heap.size) (by go_grown) (Nat.le_refl _)) HK.out _ HF0.out).mono ?_); rintro e w0 ⟨rfl, hb⟩; obtain ⟨s0, k0, k1, hb1⟩ := boxed2 hb (by simp); have c0 := k0.cell 0 (v := .int .i64 z) rfl; have c1 := k0.cell 1 (v := .slice a n cap) rfl; have HB0 : Hid (Below w.heap.size w w0) := hb1; have J0 : Hid (Blk w0 w.heap.size #[.int .i64 z, .slice a n cap] 24) := k0; have J1 : Hid (Blk w0 (w.heap.size + 1) #[.bool false, .bool false, .bool false, .bool false, .bool false] 37) := k1; clear hb hb1 k0 k1)
      | (go_at_call 29; (with_reducible refine (everyArc_any _ (z, l) _ (HM.out.later HB0.out (Nat.le_refl _)) _ _ _ (full_ask _) HK.out (by show l.length ≤ 60; rw [HN.out]; exact H60.out) _ HF.out).mono ?_); rintro e w1 ⟨rfl, hb⟩; have HB1 : Hid (Below w.heap.size w w1) := HB0.out.trans (hb.mono HB0.out.size); have K0 : Hid (Blk w1 w.heap.size #[.int .i64 z, .slice a n cap] 24) := J0.out.below hb (by omega); have K1 : Hid (Blk w1 (w.heap.size + 1) #[.bool false, .bool false, .bool false, .bool false, .bool false] 37) := J1.out.below hb (by omega); have s1 : w.heap.size + 2 ≤ w1.heap.size := Nat.le_trans s0 hb.size; clear hb))
    refine region_anyL (HeldN w.heap.size z (.slice a n cap)) 1000 (by kernel_rfl) ?_
    have HS1 : HeldN w.heap.size z (.slice a n cap) w1.drew := ⟨K0.out.cell 0 rfl, K0.out.cell 1 rfl⟩
    refine anyL_take (i := 0) (v := ?v0_31) at0 (by kernel_rfl) (by kernel_rfl) (by kernel_rfl) (by kernel_rfl) (fun _ _ _ h => h) rfl ?y0_31 HS1 ?r0_31
    case y0_31 => intro wx hx; obtain ⟨h1, h2⟩ := hx; go_simp; try (with_reducible rfl)
    simp only [Act.put, List.setIfInBounds_toArray, List.set_cons_zero, List.set_cons_succ]
    refine anyL_take (i := 2) (v := ?v2_32) (atS (atS at0)) (by kernel_rfl) (by kernel_rfl) (by kernel_rfl) (by kernel_rfl) (fun _ _ _ h => h) rfl ?y2_32 HS1 ?r2_32
    case y2_32 => intro wx hx; obtain ⟨h1, h2⟩ := hx; go_simp; try (with_reducible rfl)
    simp only [Act.put, List.setIfInBounds_toArray, List.set_cons_zero, List.set_cons_succ]
    refine anyL_take (i := 3) (v := ?v3_33) (atS (atS (atS at0))) (by kernel_rfl) (by kernel_rfl) (by kernel_rfl) (by kernel_rfl) (fun _ _ _ h => h) rfl ?y3_33 HS1 ?r3_33
    case y3_33 => intro wx hx; obtain ⟨h1, h2⟩ := hx; go_simp; try (with_reducible rfl)
    simp only [Act.put, List.setIfInBounds_toArray, List.set_cons_zero, List.set_cons_succ]
    refine anyL_take (i := 8) (v := ?v8_34) (atS (atS (atS (atS (atS (atS (atS (atS at0)))))))) (by kernel_rfl) (by kernel_rfl) (by kernel_rfl) (by kernel_rfl) (fun _ _ _ h => h) rfl ?y8_34 HS1 ?r8_34
    case y8_34 => intro wx hx; obtain ⟨h1, h2⟩ := hx; go_simp; try (with_reducible rfl)
    simp only [Act.put, List.setIfInBounds_toArray, List.set_cons_zero, List.set_cons_succ]
    refine anyL_take (i := 10) (v := ?v10_35) (atS (atS (atS (atS (atS (atS (atS (atS (atS (atS at0)))))))))) (by kernel_rfl) (by kernel_rfl) (by kernel_rfl) (by kernel_rfl) (fun _ _ _ h => h) rfl ?y10_35 HS1 ?r10_35
    case y10_35 => intro wx hx; obtain ⟨h1, h2⟩ := hx; go_simp; try (with_reducible rfl)
    simp only [Act.put, List.setIfInBounds_toArray, List.set_cons_zero, List.set_cons_succ]
    refine anyL_one (i := 1) (atS at0) (by kernel_rfl) rfl (fun K hK => ?_)
    go_simp
    refine (everyArc_any _ (z, l) _ (HM.out.later HB1.out.drew (Nat.le_refl _)) _ _ _ (acc_ask _) HK.out (by show l.length ≤ 60; rw [HN.out]; exact H60.out) _ HA.out).mono ?_
    rintro e w2 ⟨rfl, hb2⟩
    have HL2 : Below w1.heap.size w1 w2 := below_undrew hb2
    have HB2 : Below w.heap.size w w2 := HB1.out.trans (HL2.mono HB1.out.size)
    have HS2 : HeldN w.heap.size z (.slice a n cap) w2 := ⟨(K0.out.below HL2 (by omega)).cell 0 rfl, (K0.out.below HL2 (by omega)).cell 1 rfl⟩
    refine hK _ _ (.inr HS2) ?_
    try simp only [Act.put, List.setIfInBounds_toArray, List.set_cons_zero, List.set_cons_succ]
    refine anyL_take (i := 4) (v := ?v4_36) (atS (atS (atS (atS at0)))) (by kernel_rfl) (by kernel_rfl) (by kernel_rfl) (by kernel_rfl) (fun _ _ _ h => h) rfl ?y4_36 HS2 ?r4_36
    case y4_36 => intro wx hx; obtain ⟨h1, h2⟩ := hx; go_simp; try (with_reducible rfl)
    simp only [Act.put, List.setIfInBounds_toArray, List.set_cons_zero, List.set_cons_succ]
    refine anyL_takeG (i := 5) (v := ?v5_63) (atS (atS (atS (atS (atS at0))))) (by kernel_rfl) (by kernel_rfl) (by kernel_rfl) (by kernel_rfl) (fun _ _ _ h => h) (by rfl) ?y5_63 HS2 ?r5_63
    case y5_63 => intro wx hx; obtain ⟨h1, h2⟩ := hx; go_simp; try (with_reducible rfl)
    simp only [Act.put, List.setIfInBounds_toArray, List.set_cons_zero, List.set_cons_succ]
    refine anyL_oneG (i := 6) (atS (atS (atS (atS (atS (atS at0)))))) (by kernel_rfl) (by rfl) (fun K hK => ?_)
    go_simp
    refine (everyState_any _ (z, l) _ (HM.out.later HB2 (Nat.le_refl _)) _ _ _ (hasOnce_ask l _ HR.out) (by show l.length ≤ 60; rw [HN.out]; exact H60.out) _ HC.out).mono ?_
    rintro e w3 ⟨rfl, hb3⟩
    have HL3 : Below w1.heap.size w1 w3 := HL2.trans (hb3.mono HL2.size)
    have HB3 : Below w.heap.size w w3 := HB1.out.trans (HL3.mono HB1.out.size)
    have HS3 : HeldN w.heap.size z (.slice a n cap) w3 := ⟨(K0.out.below HL3 (by omega)).cell 0 rfl, (K0.out.below HL3 (by omega)).cell 1 rfl⟩
    refine hK _ _ (.inr HS3) ?_
    try simp only [Act.put, List.setIfInBounds_toArray, List.set_cons_zero, List.set_cons_succ]
    refine anyL_take (i := 7) (v := ?v7_37) (atS (atS (atS (atS (atS (atS (atS at0))))))) (by kernel_rfl) (by kernel_rfl) (by kernel_rfl) (by kernel_rfl) (fun _ _ _ h => h) rfl ?y7_37 HS3 ?r7_37
    case y7_37 => intro wx hx; obtain ⟨h1, h2⟩ := hx; go_simp; try (with_reducible rfl)
    simp only [Act.put, List.setIfInBounds_toArray, List.set_cons_zero, List.set_cons_succ]
    refine anyL_one (i := 9) (atS (atS (atS (atS (atS (atS (atS (atS (atS at0))))))))) (by kernel_rfl) rfl (fun K hK => ?_)
    go_simp
    refine (everyState_any _ (z, l) _ (HM.out.later HB3 (Nat.le_refl _)) _ _ _ (isInOrder_ask l _ HL.out) (by show l.length ≤ 60; rw [HN.out]; exact H60.out) _ HSo.out).mono ?_
    rintro e w4 ⟨rfl, hb4⟩
    have HL4 : Below w1.heap.size w1 w4 := HL3.trans (hb4.mono HL3.size)
    have HB4 : Below w.heap.size w w4 := HB1.out.trans (HL4.mono HB1.out.size)
    have HS4 : HeldN w.heap.size z (.slice a n cap) w4 := ⟨(K0.out.below HL4 (by omega)).cell 0 rfl, (K0.out.below HL4 (by omega)).cell 1 rfl⟩
    refine hK _ _ (.inr HS4) ?_
    try simp only [Act.put, List.setIfInBounds_toArray, List.set_cons_zero, List.set_cons_succ]
    refine anyL_one (i := 11) (atS (atS (atS (atS (atS (atS (atS (atS (atS (atS (atS at0))))))))))) (by kernel_rfl) rfl (fun K hK => ?_)
    go_simp
    refine (everyArc_any _ (z, l) _ (HM.out.later HB4 (Nat.le_refl _)) _ _ _ (free_ask _) HK.out (by show l.length ≤ 60; rw [HN.out]; exact H60.out) _ HFr.out).mono ?_
    rintro e w5 ⟨rfl, hb5⟩
    have HL5 : Below w1.heap.size w1 w5 := HL4.trans (hb5.mono HL4.size)
    have HB5 : Below w.heap.size w w5 := HB1.out.trans (HL5.mono HB1.out.size)
    have HS5 : HeldN w.heap.size z (.slice a n cap) w5 := ⟨(K0.out.below HL5 (by omega)).cell 0 rfl, (K0.out.below HL5 (by omega)).cell 1 rfl⟩
    refine hK _ _ (.inr HS5) ?_
    try simp only [Act.put, List.setIfInBounds_toArray, List.set_cons_zero, List.set_cons_succ]
    refine anyL_take (i := 12) (v := ?v12_38) (atS (atS (atS (atS (atS (atS (atS (atS (atS (atS (atS (atS at0)))))))))))) (by kernel_rfl) (by kernel_rfl) (by kernel_rfl) (by kernel_rfl) (fun _ _ _ h => h) rfl ?y12_38 HS5 ?r12_38
    case y12_38 => intro wx hx; obtain ⟨h1, h2⟩ := hx; go_simp; try (with_reducible rfl)
    simp only [Act.put, List.setIfInBounds_toArray, List.set_cons_zero, List.set_cons_succ]
    refine anyL_takeG (i := 13) (v := ?v13_64) (atS (atS (atS (atS (atS (atS (atS (atS (atS (atS (atS (atS (atS at0))))))))))))) (by kernel_rfl) (by kernel_rfl) (by kernel_rfl) (by kernel_rfl) (fun _ _ _ h => h) (by rfl) ?y13_64 HS5 ?r13_64
    case y13_64 => intro wx hx; obtain ⟨h1, h2⟩ := hx; go_simp; try (with_reducible rfl)
    simp only [Act.put, List.setIfInBounds_toArray, List.set_cons_zero, List.set_cons_succ]
    refine anyL_oneG (i := 14) (atS (atS (atS (atS (atS (atS (atS (atS (atS (atS (atS (atS (atS (atS at0)))))))))))))) (by kernel_rfl) (by rfl) (fun K hK => ?_)
    go_simp
    refine (everyState_any _ (z, l) _ (HM.out.later HB5 (Nat.le_refl _)) _ _ _ (ends_ask l _) (by show l.length ≤ 60; rw [HN.out]; exact H60.out) _ HE.out).mono ?_
    rintro e w6 ⟨rfl, hb6⟩
    have HL6 : Below w1.heap.size w1 w6 := HL5.trans (hb6.mono HL5.size)
    have HB6 : Below w.heap.size w w6 := HB1.out.trans (HL6.mono HB1.out.size)
    have HS6 : HeldN w.heap.size z (.slice a n cap) w6 := ⟨(K0.out.below HL6 (by omega)).cell 0 rfl, (K0.out.below HL6 (by omega)).cell 1 rfl⟩
    refine hK _ _ (.inr HS6) ?_
    try simp only [Act.put, List.setIfInBounds_toArray, List.set_cons_zero, List.set_cons_succ]
    refine anyL_take (i := 15) (v := ?v15_39) (atS (atS (atS (atS (atS (atS (atS (atS (atS (atS (atS (atS (atS (atS (atS at0))))))))))))))) (by kernel_rfl) (by kernel_rfl) (by kernel_rfl) (by kernel_rfl) (fun _ _ _ h => h) rfl ?y15_39 HS6 ?r15_39
    case y15_39 => intro wx hx; obtain ⟨h1, h2⟩ := hx; go_simp; try (with_reducible rfl)
    simp only [Act.put, List.setIfInBounds_toArray, List.set_cons_zero, List.set_cons_succ]
    refine anyL_take (i := 16) (v := ?v16_40) (atS (atS (atS (atS (atS (atS (atS (atS (atS (atS (atS (atS (atS (atS (atS (atS at0)))))))))))))))) (by kernel_rfl) (by kernel_rfl) (by kernel_rfl) (by kernel_rfl) (fun _ _ _ h => h) rfl ?y16_40 HS6 ?r16_40
    case y16_40 => intro wx hx; obtain ⟨h1, h2⟩ := hx; go_simp; try (with_reducible rfl)
    simp only [Act.put, List.setIfInBounds_toArray, List.set_cons_zero, List.set_cons_succ]
    have K3 := K1.out.below HL6 (by omega)
    have e0 := K3.cell 0 (v := .bool false) rfl
    have f0 := K3.fz 0
    have e1 := K3.cell 1 (v := .bool false) rfl
    have f1 := K3.fz 1
    have e2 := K3.cell 2 (v := .bool false) rfl
    have f2 := K3.fz 2
    have e3 := K3.cell 3 (v := .bool false) rfl
    have f3 := K3.fz 3
    have e4 := K3.cell 4 (v := .bool false) rfl
    have f4 := K3.fz 4
    have q0 := HS6.1
    have q1 := HS6.2
    refine anyL_one (i := 17) (atS (atS (atS (atS (atS (atS (atS (atS (atS (atS (atS (atS (atS (atS (atS (atS (atS at0))))))))))))))))) (by kernel_rfl) rfl (fun K hK => ?_)
    go_simp
    refine hK _ _ (.inr ⟨by go_cell, by go_cell⟩) ?_
    try simp only [Act.put, List.setIfInBounds_toArray, List.set_cons_zero, List.set_cons_succ]
    refine anyL_one (i := 18) (atS (atS (atS (atS (atS (atS (atS (atS (atS (atS (atS (atS (atS (atS (atS (atS (atS (atS at0)))))))))))))))))) (by kernel_rfl) rfl (fun K hK => ?_)
    go_simp
    refine hK _ _ (.inr ⟨by go_cell, by go_cell⟩) (anyL_done (by kernel_rfl) (NoPanic.normal ?_))
    try simp only [Act.put, List.setIfInBounds_toArray, List.set_cons_zero, List.set_cons_succ]
    go_wp2
    exact bodyPost_ret (v := .tuple #[.agg #[.bool rA, .bool true, .bool rC, .bool rS, .bool rE], .int .i64 0]) (by simp [results, Try.results11, go_sem, *]) rfl ⟨rfl, by (have h := HB6); go_grown⟩
end Go.Proofs.Ytjpfpdbhdcopbaa.Wt
