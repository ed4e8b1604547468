/- slices.CompactFunc at arcs of the call's own: what it leaves. -/
import Derived.Test.YtbiecfnhjfdkcaaAd
namespace Go.Proofs.Ytbiecfnhjfdkcaa.Wt
open Go.ChangeShapes Go.WideShapes Go.ChangeAt Go.RowKit
open Go.Proofs.Ytbiecfnhjfdkcaa.Pl
set_option linter.unusedVariables false
set_option linter.unusedSimpArgs false
theorem below_undrewE {B : Nat} {w w' : World} (h : Below B w.drew w') : Below B w w' := ⟨h.os, h.tape, h.output, h.size, h.block⟩
theorem grown_trans {a b c : World} {r : Option Nat} (h : a.grownBy b r) (k : b.grownBy c r) : a.grownBy c r := ⟨k.os.trans h.os, k.tape.trans h.tape, k.output.trans h.output, Nat.le_trans h.size k.size, fun i hi hne => (k.block i (Nat.lt_of_lt_of_le hi h.size) hne).trans (h.block i hi hne)⟩
theorem grown_new {a b : World} {r : Option Nat} (hb : Below a.heap.size a b) : a.grownBy b r := ⟨hb.os, hb.tape, hb.output, hb.size, fun k hk _ => hb.block k hk⟩
theorem grown_set (w : World) (b o : Nat) (v : Value) : w.grownBy (w.setCell ⟨b, o, none⟩ v) (some b) := ⟨rfl, rfl, rfl, by simp [World.setCell], fun k _ hne => Below.heap_setCell w _ _ k (by intro e; exact hne (by rw [e]))⟩
set_option maxRecDepth 100000 in
set_option maxHeartbeats 3200000 in
theorem compact_two (base g cap : Nat) (l : List Ar) (rest : List Value) (w : World) (h2 : 2 ≤ l.length) (hl : l.length * 32 ≤ 140737488351232) (hbg : base ≤ g) (hcap : cap ≤ maxLen) (hlc : l.length ≤ cap) (hrest : (l.flatMap encA ++ rest).length = cap * 4) (hh : Blk w g (l.flatMap encA ++ rest).toArray 43) :
    Calls Try.prog 40 #[.slice (some ⟨g, 0, none⟩) l.length cap, .func (.func 41) #[] #[]] w fun e w' => ∃ v', e = .returned v' ∧ w'.ownsRow base 43 4 v' (lightL l).length ((lightL l).flatMap encA) ∧ w.grownBy w' (some g) := by
  have eg : ∀ ar W, (callFunc 41 ar).run Try.prog W = .ok (.enter 41 ar) W := enters_of Try.func41 (by kernel_rfl) rfl
  have HH : Hid (Blk w g (l.flatMap encA ++ rest).toArray 43) := hh
  have HRS : Hid ((l.flatMap encA ++ rest).length = cap * 4) := hrest
  have hgw : g < w.heap.size := hh.lt
  clear hh hrest
  generalize hn : l.length = n at *
  have HN : Hid (l.length = n) := hn
  clear hn
  have hn2 : ¬ (n : Int) < 2 := by omega
  unfold maxLen at hcap
  have hnot : ∀ (x : Bool) (w : World), (Op.unary .not (.bool x)).run Try.prog w = .ok (.bool (!x)) w := fun _ _ => rfl
  go_enter Try.func40, Try.ntmps40
  go_wp2
  go_loopw [5] (fun i wr => ∃ d : Nat, d + 1 ≤ n ∧ i = .int .i64 ((d + 1 : Nat) : Int) ∧ Hid (∀ j, j < d → alikeB (el l (j + 1)) (el l j) = false) ∧ Hid (Below w.heap.size w wr)) (fun i _ => n - (intOf i).toNat)
  case atStart => exact ⟨0, by omega, rfl, fun j hj => absurd hj (Nat.not_lt_zero _), Below.refl _ _⟩
  case round =>
    obtain ⟨d, hd, rfl, hok, hb⟩ := hrel
    by_cases hlt : d + 1 < n
    · have hbk : Blk wr g (l.flatMap encA ++ rest).toArray 43 := HH.out.below hb.out hgw
      have HS : HeldE g ((d + 1) * 4) (d * 4) (el l (d + 1)) (el l d) wr.drew := ⟨blk_four hbk (by rw [HN.out]; omega), blk_four hbk (by rw [HN.out]; omega)⟩
      have k1 : (0 : Int) ≤ (d : Int) + 1 := by omega
      have k2 : (d : Int) + 1 < (n : Int) := by omega
      have k3 : (0 : Int) ≤ (d : Int) := by omega
      have k4 : (d : Int) < (n : Int) := by omega
      have k5 : IntKind.i64.wrap (d : Int) = (d : Int) := wrapD (by omega) (by omega)
      rcases bool_cases' (alikeB (el l (d + 1)) (el l d)) with ha | ha
      · have HA : Hid (alikeB (el l (d + 1)) (el l d) = true) := ha
        clear ha
        go_wp2
        refine region_anyL (HeldE g ((d + 1) * 4) (d * 4) (el l (d + 1)) (el l d)) 1000 (by kernel_rfl) ?_
        refine anyL_take (i := 0) (v := ?v0_9) at0 (by kernel_rfl) (by kernel_rfl) (by kernel_rfl) (by kernel_rfl) (fun _ _ _ h => h) rfl ?y0_9 HS ?r0_9
        case y0_9 => intro wx hx; obtain ⟨⟨x0, x1, x2, x3⟩, ⟨y0, y1, y2, y3⟩⟩ := hx; go_simp; try (with_reducible rfl)
        simp only [Act.put, List.setIfInBounds_toArray, List.set_cons_zero, List.set_cons_succ]
        refine anyL_take (i := 1) (v := ?v1_10) (atS at0) (by kernel_rfl) (by kernel_rfl) (by kernel_rfl) (by kernel_rfl) (fun _ _ _ h => h) rfl ?y1_10 HS ?r1_10
        case y1_10 => intro wx hx; obtain ⟨⟨x0, x1, x2, x3⟩, ⟨y0, y1, y2, y3⟩⟩ := hx; go_simp; try (with_reducible rfl)
        simp only [Act.put, List.setIfInBounds_toArray, List.set_cons_zero, List.set_cons_succ]
        refine anyL_take (i := 2) (v := ?v2_11) (atS (atS at0)) (by kernel_rfl) (by kernel_rfl) (by kernel_rfl) (by kernel_rfl) (fun _ _ _ h => h) rfl ?y2_11 HS ?r2_11
        case y2_11 => intro wx hx; obtain ⟨⟨x0, x1, x2, x3⟩, ⟨y0, y1, y2, y3⟩⟩ := hx; go_simp; try (with_reducible rfl)
        simp only [Act.put, List.setIfInBounds_toArray, List.set_cons_zero, List.set_cons_succ]
        refine anyL_take (i := 3) (v := ?v3_12) (atS (atS (atS at0))) (by kernel_rfl) (by kernel_rfl) (by kernel_rfl) (by kernel_rfl) (fun _ _ _ h => h) rfl ?y3_12 HS ?r3_12
        case y3_12 => intro wx hx; obtain ⟨⟨x0, x1, x2, x3⟩, ⟨y0, y1, y2, y3⟩⟩ := hx; go_simp; try (with_reducible rfl)
        simp only [Act.put, List.setIfInBounds_toArray, List.set_cons_zero, List.set_cons_succ]
        refine anyL_take (i := 4) (v := ?v4_13) (atS (atS (atS (atS at0)))) (by kernel_rfl) (by kernel_rfl) (by kernel_rfl) (by kernel_rfl) (fun _ _ _ h => h) rfl ?y4_13 HS ?r4_13
        case y4_13 => intro wx hx; obtain ⟨⟨x0, x1, x2, x3⟩, ⟨y0, y1, y2, y3⟩⟩ := hx; go_simp; try (with_reducible rfl)
        simp only [Act.put, List.setIfInBounds_toArray, List.set_cons_zero, List.set_cons_succ]
        refine anyL_take (i := 5) (v := ?v5_14) (atS (atS (atS (atS (atS at0))))) (by kernel_rfl) (by kernel_rfl) (by kernel_rfl) (by kernel_rfl) (fun _ _ _ h => h) rfl ?y5_14 HS ?r5_14
        case y5_14 => intro wx hx; obtain ⟨⟨x0, x1, x2, x3⟩, ⟨y0, y1, y2, y3⟩⟩ := hx; go_simp; try (with_reducible rfl)
        simp only [Act.put, List.setIfInBounds_toArray, List.set_cons_zero, List.set_cons_succ]
        refine anyL_take (i := 6) (v := ?v6_15) (atS (atS (atS (atS (atS (atS at0)))))) (by kernel_rfl) (by kernel_rfl) (by kernel_rfl) (by kernel_rfl) (fun _ _ _ h => h) rfl ?y6_15 HS ?r6_15
        case y6_15 => intro wx hx; obtain ⟨⟨x0, x1, x2, x3⟩, ⟨y0, y1, y2, y3⟩⟩ := hx; go_simp; try (with_reducible rfl)
        simp only [Act.put, List.setIfInBounds_toArray, List.set_cons_zero, List.set_cons_succ]
        refine anyL_take (i := 7) (v := ?v7_16) (atS (atS (atS (atS (atS (atS (atS at0))))))) (by kernel_rfl) (by kernel_rfl) (by kernel_rfl) (by kernel_rfl) (fun _ _ _ h => h) rfl ?y7_16 HS ?r7_16
        case y7_16 => intro wx hx; obtain ⟨⟨x0, x1, x2, x3⟩, ⟨y0, y1, y2, y3⟩⟩ := hx; go_simp; try (with_reducible rfl)
        simp only [Act.put, List.setIfInBounds_toArray, List.set_cons_zero, List.set_cons_succ]
        refine anyL_take (i := 8) (v := ?v8_17) (atS (atS (atS (atS (atS (atS (atS (atS at0)))))))) (by kernel_rfl) (by kernel_rfl) (by kernel_rfl) (by kernel_rfl) (fun _ _ _ h => h) rfl ?y8_17 HS ?r8_17
        case y8_17 => intro wx hx; obtain ⟨⟨x0, x1, x2, x3⟩, ⟨y0, y1, y2, y3⟩⟩ := hx; go_simp; try (with_reducible rfl)
        simp only [Act.put, List.setIfInBounds_toArray, List.set_cons_zero, List.set_cons_succ]
        refine anyL_take (i := 9) (v := ?v9_18) (atS (atS (atS (atS (atS (atS (atS (atS (atS at0))))))))) (by kernel_rfl) (by kernel_rfl) (by kernel_rfl) (by kernel_rfl) (fun _ _ _ h => h) rfl ?y9_18 HS ?r9_18
        case y9_18 => intro wx hx; obtain ⟨⟨x0, x1, x2, x3⟩, ⟨y0, y1, y2, y3⟩⟩ := hx; go_simp; try (with_reducible rfl)
        simp only [Act.put, List.setIfInBounds_toArray, List.set_cons_zero, List.set_cons_succ]
        refine anyL_one (i := 10) (atS (atS (atS (atS (atS (atS (atS (atS (atS (atS at0)))))))))) (by kernel_rfl) rfl (fun K hK => ?_)
        go_simp
        refine (alike_any _ _ _ true HA.out).mono ?_
        rintro e w1 ⟨rfl, hb1⟩
        have hbA := below_undrewE hb1
        have HS1 : HeldE g ((d + 1) * 4) (d * 4) (el l (d + 1)) (el l d) w1 := ⟨HS.1.later hb1 (Nat.lt_of_lt_of_le hgw hb.out.size), HS.2.later hb1 (Nat.lt_of_lt_of_le hgw hb.out.size)⟩
        have HB1 : Hid (Below w.heap.size w w1) := hb.out.trans (hbA.mono hb.out.size)
        refine hK _ _ (.inr HS1) ?_
        try simp only [Act.put, List.setIfInBounds_toArray, List.set_cons_zero, List.set_cons_succ]
        refine anyL_done (by kernel_rfl) (NoPanic.normal ?_)
        clear HS HS1 hbA hb1 hbk
        go_wp2
        clear k1 k2 k3 k4 k5
        go_loopw [5, 7] (fun i5 i7 wr => ∃ (e kk : Nat) (dl : List Ar), d + 1 + e + 1 ≤ n ∧ i5 = .int .i64 (kk : Int) ∧ i7 = .int .i64 ((e + 1 : Nat) : Int) ∧ Hid (Moved l (d + 1) e kk dl) ∧ Hid (Blk wr g (dl.flatMap encA ++ rest).toArray 43) ∧ Hid (w.grownBy wr (some g))) (fun _ i7 _ => n - (intOf i7).toNat)
        case atStart => exact ⟨0, d + 1, l, by omega, by go_num, rfl, ⟨rfl, by omega, light_first (by rw [HN.out]; exact hlt) hok.out HA.out, fun _ _ _ => rfl⟩, HH.out.below HB1.out hgw, grown_new HB1.out⟩
        case round =>
          obtain ⟨e, kk, dl, he, rfl, rfl, hm, hbq, hg⟩ := hrel
          have hkk := hm.out.le
          have hdl : dl.length = n := hm.out.len.trans HN.out
          by_cases hl2 : d + 1 + e + 1 < n
          · have f1 : Four wr g ((d + 1) * 4 + (e + 1) * 4) (el l (d + 1 + e + 1)) := by
              have := blk_four hbq.out (j := d + 1 + e + 1) (by omega)
              rw [hm.out.high _ (by omega) (by rw [HN.out]; exact hl2), show (d + 1 + e + 1) * 4 = (d + 1) * 4 + (e + 1) * 4 by omega] at this
              exact this
            have f2 : Four wr g ((d + 1) * 4 + e * 4) (el l (d + 1 + e)) := by
              have := blk_four hbq.out (j := d + 1 + e) (by omega)
              rw [hm.out.high _ (by omega) (by rw [HN.out]; omega), show (d + 1 + e) * 4 = (d + 1) * 4 + e * 4 by omega] at this
              exact this
            have HS : HeldE g ((d + 1) * 4 + (e + 1) * 4) ((d + 1) * 4 + e * 4) (el l (d + 1 + e + 1)) (el l (d + 1 + e)) wr.drew := ⟨f1, f2⟩
            have hgq : g < wr.heap.size := hbq.out.lt
            have k1 : (0 : Int) ≤ (e : Int) + 1 := by omega
            have k2 : (e : Int) + 1 < ((n - (d + 1) : Nat) : Int) := by omega
            have k3 : (0 : Int) ≤ (e : Int) := by omega
            have k4 : (e : Int) < ((n - (d + 1) : Nat) : Int) := by omega
            have k5 : IntKind.i64.wrap (e : Int) = (e : Int) := wrapD (by omega) (by omega)
            have k6 : (0 : Int) ≤ (kk : Int) := by omega
            have k7 : (kk : Int) < (n : Int) := by omega
            clear f1 f2
            rcases bool_cases' (alikeB (el l (d + 1 + e + 1)) (el l (d + 1 + e))) with hx | hx
            · have HX : Hid (alikeB (el l (d + 1 + e + 1)) (el l (d + 1 + e)) = true) := hx
              have HM2 : Hid (Moved l (d + 1) (e + 1) kk dl) := hm.out.skip (by rw [HN.out]; exact hl2) hx
              clear hx
              go_wp2
              refine region_anyL (HeldE g ((d + 1) * 4 + (e + 1) * 4) ((d + 1) * 4 + e * 4) (el l (d + 1 + e + 1)) (el l (d + 1 + e))) 1000 (by kernel_rfl) ?_
              refine anyL_take (i := 0) (v := ?v0_19) at0 (by kernel_rfl) (by kernel_rfl) (by kernel_rfl) (by kernel_rfl) (fun _ _ _ h => h) rfl ?y0_19 HS ?r0_19
              case y0_19 => intro wx hx; obtain ⟨⟨x0, x1, x2, x3⟩, ⟨y0, y1, y2, y3⟩⟩ := hx; go_simp; try (with_reducible rfl)
              simp only [Act.put, List.setIfInBounds_toArray, List.set_cons_zero, List.set_cons_succ]
              refine anyL_take (i := 1) (v := ?v1_20) (atS at0) (by kernel_rfl) (by kernel_rfl) (by kernel_rfl) (by kernel_rfl) (fun _ _ _ h => h) rfl ?y1_20 HS ?r1_20
              case y1_20 => intro wx hx; obtain ⟨⟨x0, x1, x2, x3⟩, ⟨y0, y1, y2, y3⟩⟩ := hx; go_simp; try (with_reducible rfl)
              simp only [Act.put, List.setIfInBounds_toArray, List.set_cons_zero, List.set_cons_succ]
              refine anyL_take (i := 2) (v := ?v2_21) (atS (atS at0)) (by kernel_rfl) (by kernel_rfl) (by kernel_rfl) (by kernel_rfl) (fun _ _ _ h => h) rfl ?y2_21 HS ?r2_21
              case y2_21 => intro wx hx; obtain ⟨⟨x0, x1, x2, x3⟩, ⟨y0, y1, y2, y3⟩⟩ := hx; go_simp; try (with_reducible rfl)
              simp only [Act.put, List.setIfInBounds_toArray, List.set_cons_zero, List.set_cons_succ]
              refine anyL_take (i := 3) (v := ?v3_22) (atS (atS (atS at0))) (by kernel_rfl) (by kernel_rfl) (by kernel_rfl) (by kernel_rfl) (fun _ _ _ h => h) rfl ?y3_22 HS ?r3_22
              case y3_22 => intro wx hx; obtain ⟨⟨x0, x1, x2, x3⟩, ⟨y0, y1, y2, y3⟩⟩ := hx; go_simp; try (with_reducible rfl)
              simp only [Act.put, List.setIfInBounds_toArray, List.set_cons_zero, List.set_cons_succ]
              refine anyL_take (i := 4) (v := ?v4_23) (atS (atS (atS (atS at0)))) (by kernel_rfl) (by kernel_rfl) (by kernel_rfl) (by kernel_rfl) (fun _ _ _ h => h) rfl ?y4_23 HS ?r4_23
              case y4_23 => intro wx hx; obtain ⟨⟨x0, x1, x2, x3⟩, ⟨y0, y1, y2, y3⟩⟩ := hx; go_simp; try (with_reducible rfl)
              simp only [Act.put, List.setIfInBounds_toArray, List.set_cons_zero, List.set_cons_succ]
              refine anyL_take (i := 5) (v := ?v5_24) (atS (atS (atS (atS (atS at0))))) (by kernel_rfl) (by kernel_rfl) (by kernel_rfl) (by kernel_rfl) (fun _ _ _ h => h) rfl ?y5_24 HS ?r5_24
              case y5_24 => intro wx hx; obtain ⟨⟨x0, x1, x2, x3⟩, ⟨y0, y1, y2, y3⟩⟩ := hx; go_simp; try (with_reducible rfl)
              simp only [Act.put, List.setIfInBounds_toArray, List.set_cons_zero, List.set_cons_succ]
              refine anyL_take (i := 6) (v := ?v6_25) (atS (atS (atS (atS (atS (atS at0)))))) (by kernel_rfl) (by kernel_rfl) (by kernel_rfl) (by kernel_rfl) (fun _ _ _ h => h) rfl ?y6_25 HS ?r6_25
              case y6_25 => intro wx hx; obtain ⟨⟨x0, x1, x2, x3⟩, ⟨y0, y1, y2, y3⟩⟩ := hx; go_simp; try (with_reducible rfl)
              simp only [Act.put, List.setIfInBounds_toArray, List.set_cons_zero, List.set_cons_succ]
              refine anyL_take (i := 7) (v := ?v7_26) (atS (atS (atS (atS (atS (atS (atS at0))))))) (by kernel_rfl) (by kernel_rfl) (by kernel_rfl) (by kernel_rfl) (fun _ _ _ h => h) rfl ?y7_26 HS ?r7_26
              case y7_26 => intro wx hx; obtain ⟨⟨x0, x1, x2, x3⟩, ⟨y0, y1, y2, y3⟩⟩ := hx; go_simp; try (with_reducible rfl)
              simp only [Act.put, List.setIfInBounds_toArray, List.set_cons_zero, List.set_cons_succ]
              refine anyL_take (i := 8) (v := ?v8_27) (atS (atS (atS (atS (atS (atS (atS (atS at0)))))))) (by kernel_rfl) (by kernel_rfl) (by kernel_rfl) (by kernel_rfl) (fun _ _ _ h => h) rfl ?y8_27 HS ?r8_27
              case y8_27 => intro wx hx; obtain ⟨⟨x0, x1, x2, x3⟩, ⟨y0, y1, y2, y3⟩⟩ := hx; go_simp; try (with_reducible rfl)
              simp only [Act.put, List.setIfInBounds_toArray, List.set_cons_zero, List.set_cons_succ]
              refine anyL_take (i := 9) (v := ?v9_28) (atS (atS (atS (atS (atS (atS (atS (atS (atS at0))))))))) (by kernel_rfl) (by kernel_rfl) (by kernel_rfl) (by kernel_rfl) (fun _ _ _ h => h) rfl ?y9_28 HS ?r9_28
              case y9_28 => intro wx hx; obtain ⟨⟨x0, x1, x2, x3⟩, ⟨y0, y1, y2, y3⟩⟩ := hx; go_simp; try (with_reducible rfl)
              simp only [Act.put, List.setIfInBounds_toArray, List.set_cons_zero, List.set_cons_succ]
              refine anyL_one (i := 10) (atS (atS (atS (atS (atS (atS (atS (atS (atS (atS at0)))))))))) (by kernel_rfl) rfl (fun K hK => ?_)
              go_simp
              refine (alike_any _ _ _ true HX.out).mono ?_
              rintro e' w2 ⟨rfl, hb2⟩
              have hbA := below_undrewE hb2
              have HS1 : HeldE g ((d + 1) * 4 + (e + 1) * 4) ((d + 1) * 4 + e * 4) (el l (d + 1 + e + 1)) (el l (d + 1 + e)) w2 := ⟨HS.1.later hb2 hgq, HS.2.later hb2 hgq⟩
              have HBQ : Hid (Blk w2 g (dl.flatMap encA ++ rest).toArray 43) := hbq.out.below hbA hgq
              have HG2 : Hid (w.grownBy w2 (some g)) := grown_trans hg.out (grown_new hbA)
              refine hK _ _ (.inr HS1) ?_
              try simp only [Act.put, List.setIfInBounds_toArray, List.set_cons_zero, List.set_cons_succ]
              refine anyL_take (i := 11) (v := ?v11_29) (atS (atS (atS (atS (atS (atS (atS (atS (atS (atS (atS at0))))))))))) (by kernel_rfl) (by kernel_rfl) (by kernel_rfl) (by kernel_rfl) (fun _ _ _ h => h) rfl ?y11_29 HS1 ?r11_29
              case y11_29 => intro wx hx; obtain ⟨⟨x0, x1, x2, x3⟩, ⟨y0, y1, y2, y3⟩⟩ := hx; go_simp; try (with_reducible rfl)
              simp only [Act.put, List.setIfInBounds_toArray, List.set_cons_zero, List.set_cons_succ]
              refine anyL_done (by kernel_rfl) (NoPanic.normal ?_)
              clear HS HS1 hbA hb2 hbq hg
              go_wp2
              go_roundw
              case rel => exact ⟨e + 1, kk, dl, by omega, rfl, by go_num, HM2, HBQ, HG2⟩
              case measure => simp [intOf]; omega
            · have HX : Hid (alikeB (el l (d + 1 + e + 1)) (el l (d + 1 + e)) = false) := hx
              have HM2 : Hid (Moved l (d + 1) (e + 1) (kk + 1) (dl.set kk (el l (d + 1 + e + 1)))) := hm.out.keep (by rw [HN.out]; exact hl2) hx
              clear hx
              go_wp2
              refine region_anyL (HeldE g ((d + 1) * 4 + (e + 1) * 4) ((d + 1) * 4 + e * 4) (el l (d + 1 + e + 1)) (el l (d + 1 + e))) 1000 (by kernel_rfl) ?_
              refine anyL_take (i := 0) (v := ?v0_30) at0 (by kernel_rfl) (by kernel_rfl) (by kernel_rfl) (by kernel_rfl) (fun _ _ _ h => h) rfl ?y0_30 HS ?r0_30
              case y0_30 => intro wx hx; obtain ⟨⟨x0, x1, x2, x3⟩, ⟨y0, y1, y2, y3⟩⟩ := hx; go_simp; try (with_reducible rfl)
              simp only [Act.put, List.setIfInBounds_toArray, List.set_cons_zero, List.set_cons_succ]
              refine anyL_take (i := 1) (v := ?v1_31) (atS at0) (by kernel_rfl) (by kernel_rfl) (by kernel_rfl) (by kernel_rfl) (fun _ _ _ h => h) rfl ?y1_31 HS ?r1_31
              case y1_31 => intro wx hx; obtain ⟨⟨x0, x1, x2, x3⟩, ⟨y0, y1, y2, y3⟩⟩ := hx; go_simp; try (with_reducible rfl)
              simp only [Act.put, List.setIfInBounds_toArray, List.set_cons_zero, List.set_cons_succ]
              refine anyL_take (i := 2) (v := ?v2_32) (atS (atS at0)) (by kernel_rfl) (by kernel_rfl) (by kernel_rfl) (by kernel_rfl) (fun _ _ _ h => h) rfl ?y2_32 HS ?r2_32
              case y2_32 => intro wx hx; obtain ⟨⟨x0, x1, x2, x3⟩, ⟨y0, y1, y2, y3⟩⟩ := hx; go_simp; try (with_reducible rfl)
              simp only [Act.put, List.setIfInBounds_toArray, List.set_cons_zero, List.set_cons_succ]
              refine anyL_take (i := 3) (v := ?v3_33) (atS (atS (atS at0))) (by kernel_rfl) (by kernel_rfl) (by kernel_rfl) (by kernel_rfl) (fun _ _ _ h => h) rfl ?y3_33 HS ?r3_33
              case y3_33 => intro wx hx; obtain ⟨⟨x0, x1, x2, x3⟩, ⟨y0, y1, y2, y3⟩⟩ := hx; go_simp; try (with_reducible rfl)
              simp only [Act.put, List.setIfInBounds_toArray, List.set_cons_zero, List.set_cons_succ]
              refine anyL_take (i := 4) (v := ?v4_34) (atS (atS (atS (atS at0)))) (by kernel_rfl) (by kernel_rfl) (by kernel_rfl) (by kernel_rfl) (fun _ _ _ h => h) rfl ?y4_34 HS ?r4_34
              case y4_34 => intro wx hx; obtain ⟨⟨x0, x1, x2, x3⟩, ⟨y0, y1, y2, y3⟩⟩ := hx; go_simp; try (with_reducible rfl)
              simp only [Act.put, List.setIfInBounds_toArray, List.set_cons_zero, List.set_cons_succ]
              refine anyL_take (i := 5) (v := ?v5_35) (atS (atS (atS (atS (atS at0))))) (by kernel_rfl) (by kernel_rfl) (by kernel_rfl) (by kernel_rfl) (fun _ _ _ h => h) rfl ?y5_35 HS ?r5_35
              case y5_35 => intro wx hx; obtain ⟨⟨x0, x1, x2, x3⟩, ⟨y0, y1, y2, y3⟩⟩ := hx; go_simp; try (with_reducible rfl)
              simp only [Act.put, List.setIfInBounds_toArray, List.set_cons_zero, List.set_cons_succ]
              refine anyL_take (i := 6) (v := ?v6_36) (atS (atS (atS (atS (atS (atS at0)))))) (by kernel_rfl) (by kernel_rfl) (by kernel_rfl) (by kernel_rfl) (fun _ _ _ h => h) rfl ?y6_36 HS ?r6_36
              case y6_36 => intro wx hx; obtain ⟨⟨x0, x1, x2, x3⟩, ⟨y0, y1, y2, y3⟩⟩ := hx; go_simp; try (with_reducible rfl)
              simp only [Act.put, List.setIfInBounds_toArray, List.set_cons_zero, List.set_cons_succ]
              refine anyL_take (i := 7) (v := ?v7_37) (atS (atS (atS (atS (atS (atS (atS at0))))))) (by kernel_rfl) (by kernel_rfl) (by kernel_rfl) (by kernel_rfl) (fun _ _ _ h => h) rfl ?y7_37 HS ?r7_37
              case y7_37 => intro wx hx; obtain ⟨⟨x0, x1, x2, x3⟩, ⟨y0, y1, y2, y3⟩⟩ := hx; go_simp; try (with_reducible rfl)
              simp only [Act.put, List.setIfInBounds_toArray, List.set_cons_zero, List.set_cons_succ]
              refine anyL_take (i := 8) (v := ?v8_38) (atS (atS (atS (atS (atS (atS (atS (atS at0)))))))) (by kernel_rfl) (by kernel_rfl) (by kernel_rfl) (by kernel_rfl) (fun _ _ _ h => h) rfl ?y8_38 HS ?r8_38
              case y8_38 => intro wx hx; obtain ⟨⟨x0, x1, x2, x3⟩, ⟨y0, y1, y2, y3⟩⟩ := hx; go_simp; try (with_reducible rfl)
              simp only [Act.put, List.setIfInBounds_toArray, List.set_cons_zero, List.set_cons_succ]
              refine anyL_take (i := 9) (v := ?v9_39) (atS (atS (atS (atS (atS (atS (atS (atS (atS at0))))))))) (by kernel_rfl) (by kernel_rfl) (by kernel_rfl) (by kernel_rfl) (fun _ _ _ h => h) rfl ?y9_39 HS ?r9_39
              case y9_39 => intro wx hx; obtain ⟨⟨x0, x1, x2, x3⟩, ⟨y0, y1, y2, y3⟩⟩ := hx; go_simp; try (with_reducible rfl)
              simp only [Act.put, List.setIfInBounds_toArray, List.set_cons_zero, List.set_cons_succ]
              refine anyL_one (i := 10) (atS (atS (atS (atS (atS (atS (atS (atS (atS (atS at0)))))))))) (by kernel_rfl) rfl (fun K hK => ?_)
              go_simp
              refine (alike_any _ _ _ false HX.out).mono ?_
              rintro e' w2 ⟨rfl, hb2⟩
              have hbA := below_undrewE hb2
              have HS1 : HeldE g ((d + 1) * 4 + (e + 1) * 4) ((d + 1) * 4 + e * 4) (el l (d + 1 + e + 1)) (el l (d + 1 + e)) w2 := ⟨HS.1.later hb2 hgq, HS.2.later hb2 hgq⟩
              have HBQ : Hid (Blk w2 g (dl.flatMap encA ++ rest).toArray 43) := hbq.out.below hbA hgq
              have HG2 : Hid (w.grownBy w2 (some g)) := grown_trans hg.out (grown_new hbA)
              refine hK _ _ (.inr HS1) ?_
              try simp only [Act.put, List.setIfInBounds_toArray, List.set_cons_zero, List.set_cons_succ]
              refine anyL_take (i := 11) (v := ?v11_40) (atS (atS (atS (atS (atS (atS (atS (atS (atS (atS (atS at0))))))))))) (by kernel_rfl) (by kernel_rfl) (by kernel_rfl) (by kernel_rfl) (fun _ _ _ h => h) rfl ?y11_40 HS1 ?r11_40
              case y11_40 => intro wx hx; obtain ⟨⟨x0, x1, x2, x3⟩, ⟨y0, y1, y2, y3⟩⟩ := hx; go_simp; try (with_reducible rfl)
              simp only [Act.put, List.setIfInBounds_toArray, List.set_cons_zero, List.set_cons_succ]
              refine anyL_done (by kernel_rfl) (NoPanic.normal ?_)
              obtain ⟨⟨p0, p1, p2, p3⟩, _⟩ := HS1
              obtain ⟨q0, q1, q2, q3⟩ := blk_four HBQ.out (j := kk) (by omega)
              have z0 := HBQ.out.fz (kk * 4)
              have z1 := HBQ.out.fz (kk * 4 + 1)
              have z2 := HBQ.out.fz (kk * 4 + 2)
              have z3 := HBQ.out.fz (kk * 4 + 3)
              generalize el l (d + 1 + e + 1) = p at *
              have RB : Hid (Blk ((((w2.setCell ⟨g, kk * 4, none⟩ (.int .i64 p.1)).setCell ⟨g, kk * 4 + 1, none⟩ (.int .i64 p.2.1)).setCell ⟨g, kk * 4 + 2, none⟩ (.int .i64 p.2.2.1)).setCell ⟨g, kk * 4 + 3, none⟩ (.int .i64 p.2.2.2)) g ((dl.set kk p).flatMap encA ++ rest).toArray 43) := by
                have h := (((HBQ.out.set (kk * 4) (.int .i64 p.1)).set (kk * 4 + 1) (.int .i64 p.2.1)).set (kk * 4 + 2) (.int .i64 p.2.2.1)).set (kk * 4 + 3) (.int .i64 p.2.2.2)
                rw [set_arc (by omega)] at h
                exact h
              have RG : Hid (w.grownBy ((((w2.setCell ⟨g, kk * 4, none⟩ (.int .i64 p.1)).setCell ⟨g, kk * 4 + 1, none⟩ (.int .i64 p.2.1)).setCell ⟨g, kk * 4 + 2, none⟩ (.int .i64 p.2.2.1)).setCell ⟨g, kk * 4 + 3, none⟩ (.int .i64 p.2.2.2)) (some g)) := grown_trans (grown_trans (grown_trans (grown_trans HG2.out (grown_set _ _ _ _)) (grown_set _ _ _ _)) (grown_set _ _ _ _)) (grown_set _ _ _ _)
              clear HS hbA hb2 hbq hg
              go_wp2
              go_roundw
              case rel => exact ⟨e + 1, kk + 1, _, by omega, by go_num, by go_num, HM2, RB, RG⟩
              case measure => simp [intOf]; omega
          · have hde : d + 1 + e + 1 = n := by omega
            have hnl : ¬ (e : Int) + 1 < ((n - (d + 1) : Nat) : Int) := by omega
            have HT : Hid (dl.take kk = lightL l) := by
              have h := hm.out.take
              rw [hde, ← HN.out, List.take_length] at h
              exact h
            have k6 : (0 : Int) ≤ (kk : Int) := by omega
            have k7 : (kk : Int) ≤ (n : Int) := by omega
            have k8 : (kk : Int) ≤ (cap : Int) := by omega
            have hsz : (dl.flatMap encA ++ rest).toArray.size = cap * 4 := by
              have h := HRS.out
              rw [List.length_append, flat_length encA_len, HN.out] at h
              rw [List.size_toArray, List.length_append, flat_length encA_len, hdl]
              exact h
            obtain ⟨w3, hcl, ⟨cur, hc1, hc2, hc3⟩, hg3⟩ := run_clear_arcs (o := kk * 4) (n := n - kk) (c := cap - kk) hbq.out (by rw [hsz]; omega)
            have HO : Hid (w3.ownsRow base 43 4 (.slice (some ⟨g, 0, none⟩) kk cap) (lightL l).length ((lightL l).flatMap encA)) := own_left hbg (by unfold maxLen; exact hcap) hc1 (by rw [hc2, hsz]) (by omega) (by omega) hc3 HT.out
            have HG3 : Hid (w.grownBy w3 (some g)) := grown_trans hg.out hg3
            clear hde hc1 hc2 hc3 hg3 hbq hg hsz
            go_wp2
            go_ret
            exact ⟨_, rfl, HO.out, HG3.out⟩
      · have HA : Hid (alikeB (el l (d + 1)) (el l d) = false) := ha
        have HO : Hid (∀ j, j < d + 1 → alikeB (el l (j + 1)) (el l j) = false) := fun j hj => by
          by_cases e : j = d
          · subst e; exact ha
          · exact hok.out j (by omega)
        clear ha
        go_wp2
        refine region_anyL (HeldE g ((d + 1) * 4) (d * 4) (el l (d + 1)) (el l d)) 1000 (by kernel_rfl) ?_
        refine anyL_take (i := 0) (v := ?v0_41) at0 (by kernel_rfl) (by kernel_rfl) (by kernel_rfl) (by kernel_rfl) (fun _ _ _ h => h) rfl ?y0_41 HS ?r0_41
        case y0_41 => intro wx hx; obtain ⟨⟨x0, x1, x2, x3⟩, ⟨y0, y1, y2, y3⟩⟩ := hx; go_simp; try (with_reducible rfl)
        simp only [Act.put, List.setIfInBounds_toArray, List.set_cons_zero, List.set_cons_succ]
        refine anyL_take (i := 1) (v := ?v1_42) (atS at0) (by kernel_rfl) (by kernel_rfl) (by kernel_rfl) (by kernel_rfl) (fun _ _ _ h => h) rfl ?y1_42 HS ?r1_42
        case y1_42 => intro wx hx; obtain ⟨⟨x0, x1, x2, x3⟩, ⟨y0, y1, y2, y3⟩⟩ := hx; go_simp; try (with_reducible rfl)
        simp only [Act.put, List.setIfInBounds_toArray, List.set_cons_zero, List.set_cons_succ]
        refine anyL_take (i := 2) (v := ?v2_43) (atS (atS at0)) (by kernel_rfl) (by kernel_rfl) (by kernel_rfl) (by kernel_rfl) (fun _ _ _ h => h) rfl ?y2_43 HS ?r2_43
        case y2_43 => intro wx hx; obtain ⟨⟨x0, x1, x2, x3⟩, ⟨y0, y1, y2, y3⟩⟩ := hx; go_simp; try (with_reducible rfl)
        simp only [Act.put, List.setIfInBounds_toArray, List.set_cons_zero, List.set_cons_succ]
        refine anyL_take (i := 3) (v := ?v3_44) (atS (atS (atS at0))) (by kernel_rfl) (by kernel_rfl) (by kernel_rfl) (by kernel_rfl) (fun _ _ _ h => h) rfl ?y3_44 HS ?r3_44
        case y3_44 => intro wx hx; obtain ⟨⟨x0, x1, x2, x3⟩, ⟨y0, y1, y2, y3⟩⟩ := hx; go_simp; try (with_reducible rfl)
        simp only [Act.put, List.setIfInBounds_toArray, List.set_cons_zero, List.set_cons_succ]
        refine anyL_take (i := 4) (v := ?v4_45) (atS (atS (atS (atS at0)))) (by kernel_rfl) (by kernel_rfl) (by kernel_rfl) (by kernel_rfl) (fun _ _ _ h => h) rfl ?y4_45 HS ?r4_45
        case y4_45 => intro wx hx; obtain ⟨⟨x0, x1, x2, x3⟩, ⟨y0, y1, y2, y3⟩⟩ := hx; go_simp; try (with_reducible rfl)
        simp only [Act.put, List.setIfInBounds_toArray, List.set_cons_zero, List.set_cons_succ]
        refine anyL_take (i := 5) (v := ?v5_46) (atS (atS (atS (atS (atS at0))))) (by kernel_rfl) (by kernel_rfl) (by kernel_rfl) (by kernel_rfl) (fun _ _ _ h => h) rfl ?y5_46 HS ?r5_46
        case y5_46 => intro wx hx; obtain ⟨⟨x0, x1, x2, x3⟩, ⟨y0, y1, y2, y3⟩⟩ := hx; go_simp; try (with_reducible rfl)
        simp only [Act.put, List.setIfInBounds_toArray, List.set_cons_zero, List.set_cons_succ]
        refine anyL_take (i := 6) (v := ?v6_47) (atS (atS (atS (atS (atS (atS at0)))))) (by kernel_rfl) (by kernel_rfl) (by kernel_rfl) (by kernel_rfl) (fun _ _ _ h => h) rfl ?y6_47 HS ?r6_47
        case y6_47 => intro wx hx; obtain ⟨⟨x0, x1, x2, x3⟩, ⟨y0, y1, y2, y3⟩⟩ := hx; go_simp; try (with_reducible rfl)
        simp only [Act.put, List.setIfInBounds_toArray, List.set_cons_zero, List.set_cons_succ]
        refine anyL_take (i := 7) (v := ?v7_48) (atS (atS (atS (atS (atS (atS (atS at0))))))) (by kernel_rfl) (by kernel_rfl) (by kernel_rfl) (by kernel_rfl) (fun _ _ _ h => h) rfl ?y7_48 HS ?r7_48
        case y7_48 => intro wx hx; obtain ⟨⟨x0, x1, x2, x3⟩, ⟨y0, y1, y2, y3⟩⟩ := hx; go_simp; try (with_reducible rfl)
        simp only [Act.put, List.setIfInBounds_toArray, List.set_cons_zero, List.set_cons_succ]
        refine anyL_take (i := 8) (v := ?v8_49) (atS (atS (atS (atS (atS (atS (atS (atS at0)))))))) (by kernel_rfl) (by kernel_rfl) (by kernel_rfl) (by kernel_rfl) (fun _ _ _ h => h) rfl ?y8_49 HS ?r8_49
        case y8_49 => intro wx hx; obtain ⟨⟨x0, x1, x2, x3⟩, ⟨y0, y1, y2, y3⟩⟩ := hx; go_simp; try (with_reducible rfl)
        simp only [Act.put, List.setIfInBounds_toArray, List.set_cons_zero, List.set_cons_succ]
        refine anyL_take (i := 9) (v := ?v9_50) (atS (atS (atS (atS (atS (atS (atS (atS (atS at0))))))))) (by kernel_rfl) (by kernel_rfl) (by kernel_rfl) (by kernel_rfl) (fun _ _ _ h => h) rfl ?y9_50 HS ?r9_50
        case y9_50 => intro wx hx; obtain ⟨⟨x0, x1, x2, x3⟩, ⟨y0, y1, y2, y3⟩⟩ := hx; go_simp; try (with_reducible rfl)
        simp only [Act.put, List.setIfInBounds_toArray, List.set_cons_zero, List.set_cons_succ]
        refine anyL_one (i := 10) (atS (atS (atS (atS (atS (atS (atS (atS (atS (atS at0)))))))))) (by kernel_rfl) rfl (fun K hK => ?_)
        go_simp
        refine (alike_any _ _ _ false HA.out).mono ?_
        rintro e w1 ⟨rfl, hb1⟩
        have hbA := below_undrewE hb1
        have HS1 : HeldE g ((d + 1) * 4) (d * 4) (el l (d + 1)) (el l d) w1 := ⟨HS.1.later hb1 (Nat.lt_of_lt_of_le hgw hb.out.size), HS.2.later hb1 (Nat.lt_of_lt_of_le hgw hb.out.size)⟩
        have HB1 : Hid (Below w.heap.size w w1) := hb.out.trans (hbA.mono hb.out.size)
        refine hK _ _ (.inr HS1) ?_
        try simp only [Act.put, List.setIfInBounds_toArray, List.set_cons_zero, List.set_cons_succ]
        refine anyL_done (by kernel_rfl) (NoPanic.normal ?_)
        clear HS HS1 hbA hb1 hbk
        go_wp2
        go_roundw
        case rel => exact ⟨d + 1, by omega, by go_num, HO, HB1⟩
        case measure => simp [intOf]; omega
    · have hde : d + 1 = n := by omega
      have HL : Hid (lightL l = l) := lightL_all (fun j hj => hok.out j (by rw [HN.out] at hj; omega))
      have hnl : ¬ (d : Int) + 1 < (n : Int) := by omega
      have HO : Hid (wr.ownsRow base 43 4 (.slice (some ⟨g, 0, none⟩) n cap) l.length (l.flatMap encA)) := own_left (dl := l) (kk := n) (rest := rest) hbg (by unfold maxLen; exact hcap) (HH.out.below hb.out hgw) (by rw [List.size_toArray]; exact HRS.out) (by rw [HN.out]; exact Nat.le_refl _) (by rw [HN.out]; exact hlc) (fun _ _ => rfl) (by rw [← HN.out, List.take_length])
      clear hde
      go_wp2
      go_ret
      exact ⟨_, rfl, by rw [HL.out]; exact HO.out, grown_new hb.out⟩
end Go.Proofs.Ytbiecfnhjfdkcaa.Wt
