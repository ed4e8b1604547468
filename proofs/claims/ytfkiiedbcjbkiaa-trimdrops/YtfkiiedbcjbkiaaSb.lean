/- The program: from which states a machine can end. -/
import Derived.Test.YtfkiiedbcjbkiaaSr
namespace Go.Proofs.Ytfkiiedbcjbkiaa.Wt
open Go.ChangeShapes Go.WideShapes Go.ChangeAt Go.RowKit
open Go.Proofs.Ytfkiiedbcjbkiaa.Pl
set_option linter.unusedVariables false
set_option linter.unusedSimpArgs false
set_option maxRecDepth 100000 in
set_option maxHeartbeats 1600000 in
theorem back_ok (v : Value) (m : Mc) (w : World) (h : Mach w v m) (hok : okM m) (hr : faultM m = 0) :
    Calls Try.prog 13 #[v] w fun e w' => ∃ v', e = .returned (.tuple #[v', .int .i64 0]) ∧ (∃ bs, Bools w' v' bs ∧ Least (BackC m.2) m.2.length bs) ∧ Below w.heap.size w w' := by
  obtain ⟨z, l⟩ := m
  obtain ⟨vs, rfl, hS⟩ := h
  obtain ⟨a, cap, rfl⟩ := hS.sl
  have HM : Hid (Mach w (.agg #[.int .i64 z, .slice a l.length cap]) (z, l)) := ⟨_, rfl, hS⟩
  have HK : Hid (okM (z, l)) := hok
  have HR : Hid (faultM (z, l) = 0) := hr
  have hz := (faultM_zero hr).2
  simp only [rangeB, Bool.and_eq_true, inB, decide_eq_true_eq] at hz
  have HZ : Hid (-1 ≤ z ∧ z < (l.length : Int)) := ⟨hz.1.1, by show z < _; omega⟩
  clear hS hok hr hz
  simp only
  have hent := enters_of Try.func41 (by kernel_rfl) rfl
  generalize hn : l.length = n at *
  have HN : Hid (l.length = n) := hn
  clear hn
  go_enter Try.func13, Try.ntmps13
  go_wp2_with (first
    | (go_at_call 20; (with_reducible refine (coreCheck_any _ (z, l) _ (HM.out.later (B := w.heap.size) (by go_grown) (Nat.le_refl _)) HK.out 0 HR.out).mono ?_); rintro e w1 ⟨rfl, hb⟩; obtain ⟨s1, b1, hb1⟩ := boxed hb (by simp); have K0 : HeldB w.heap.size z (.slice a n cap) w1 := b1; have HB1 : Hid (Below w.heap.size w w1) := hb1; clear b1 hb1 hb))
  have K1 : HeldB w.heap.size z (.slice a n cap) w1.drew := K0.drew
  refine region_anyL (HeldB w.heap.size z (.slice a n cap)) 1000 (by kernel_rfl) ?_
  refine anyL_take (i := 0) (v := ?v0_1) at0 (by kernel_rfl) (by kernel_rfl) (by kernel_rfl) (by kernel_rfl) (fun _ _ _ h => h) rfl ?y0_1 K1 ?r0_1
  case y0_1 => intro wx hx; obtain ⟨x0, x1⟩ := hx.two; go_simp; try (with_reducible rfl)
  simp only [Act.put, List.setIfInBounds_toArray, List.set_cons_zero, List.set_cons_succ]
  refine anyL_take (i := 1) (v := ?v1_2) (atS at0) (by kernel_rfl) (by kernel_rfl) (by kernel_rfl) (by kernel_rfl) (fun _ _ _ h => h) rfl ?y1_2 K1 ?r1_2
  case y1_2 => intro wx hx; obtain ⟨x0, x1⟩ := hx.two; go_simp; try (with_reducible rfl)
  simp only [Act.put, List.setIfInBounds_toArray, List.set_cons_zero, List.set_cons_succ]
  refine anyL_take (i := 2) (v := ?v2_3) (atS (atS at0)) (by kernel_rfl) (by kernel_rfl) (by kernel_rfl) (by kernel_rfl) (fun _ _ _ h => h) rfl ?y2_3 K1 ?r2_3
  case y2_3 => intro wx hx; obtain ⟨x0, x1⟩ := hx.two; go_simp; try (with_reducible rfl)
  simp only [Act.put, List.setIfInBounds_toArray, List.set_cons_zero, List.set_cons_succ]
  refine anyL_take (i := 3) (v := ?v3_4) (atS (atS (atS at0))) (by kernel_rfl) (by kernel_rfl) (by kernel_rfl) (by kernel_rfl) (fun _ _ _ h => h) rfl ?y3_4 K1 ?r3_4
  case y3_4 => intro wx hx; obtain ⟨x0, x1⟩ := hx.two; go_simp; try (with_reducible rfl)
  simp only [Act.put, List.setIfInBounds_toArray, List.set_cons_zero, List.set_cons_succ]
  refine anyL_take (i := 5) (v := ?v5_5) (atS (atS (atS (atS (atS at0))))) (by kernel_rfl) (by kernel_rfl) (by kernel_rfl) (by kernel_rfl) (fun _ _ _ h => h) rfl ?y5_5 K1 ?r5_5
  case y5_5 => intro wx hx; obtain ⟨x0, x1⟩ := hx.two; go_simp; try (with_reducible rfl)
  simp only [Act.put, List.setIfInBounds_toArray, List.set_cons_zero, List.set_cons_succ]
  refine anyL_one (i := 4) (atS (atS (atS (atS at0)))) (by kernel_rfl) rfl (fun K hK => ?_)
  go_simp
  refine (ends_any z _ l _ (HM.out.later HB1.out.drew (Nat.le_refl _)) (right_size HR.out).1).mono ?_
  rintro e w2 ⟨v2, rfl, ho2, hb2⟩
  rw [HN.out] at ho2
  have K2 : HeldB w.heap.size z (.slice a n cap) w2 := K1.below hb2 s1
  have HB2 : Hid (Below w.heap.size w w2) := HB1.out.trans ((below_undrewS hb2).mono HB1.out.size)
  have HO2 : Hid (w2.ownsRow w1.heap.size 3 1 v2 (endL l n).length ((endL l n).flatMap encI1)) := ho2
  have s2 : w1.heap.size ≤ w2.heap.size := hb2.size
  refine hK _ _ (.inr K2) ?_
  try simp only [Act.put, List.setIfInBounds_toArray, List.set_cons_zero, List.set_cons_succ]
  clear hb2 ho2 K0 K1
  refine anyL_one (i := 6) (atS (atS (atS (atS (atS (atS at0)))))) (by kernel_rfl) rfl (fun K hK => ?_)
  go_simp
  refine (followedBack_any z _ l _ (HM.out.later HB2.out (Nat.le_refl _)) HR.out).mono ?_
  rintro e w3 ⟨rfl, b3, ⟨rows, t3⟩, hb3⟩
  rw [HN.out] at b3 t3
  have K3 : HeldB w.heap.size z (.slice a n cap) w3 := K2.below hb3 (by omega)
  have HB3 : Hid (Below w.heap.size w w3) := HB2.out.trans (hb3.mono HB2.out.size)
  have HO3 : Hid (w3.ownsRow w1.heap.size 3 1 v2 (endL l n).length ((endL l n).flatMap encI1)) := ownBelow HO2.out hb3
  have s3 : w2.heap.size ≤ w3.heap.size := hb3.size
  have HASK : Hid (AskL 41 #[.pointer (some ⟨w2.heap.size + 2, 0, none⟩)] (fillS l n) n w3 v2.ownBlock) := by
    refine ⟨hent, fun q hq W hW => ?_⟩
    have hne : ∀ k, w2.heap.size ≤ k → some k ≠ v2.ownBlock := fun k hk e9 => by have h9 := (HO2.out.lt _ e9.symm).2; omega
    have hT : Blk W (w2.heap.size + 1) rows.toArray 51 := t3.blk.grown hW (hne _ (by omega))
    have hrow : W.ownsRow (w2.heap.size + 3) 3 1 (el rows q) (fillS l n q).length ((fillS l n q).flatMap encI1) := (t3.row q hq).kept hW (by
      cases e9 : (el rows q).ownBlock with
      | none => exact .inl rfl
      | some k => exact .inr (hne k (by have h9 := ((t3.row q hq).lt k e9).1; omega)))
    refine (leadsBack_any (w2.heap.size + 1) (w2.heap.size + 2) n q (el rows q) W (b3.grown hW (hne _ (by omega))) (by
      refine hT.cell _ ?_
      have h9 := t3.len
      rw [List.getElem?_toArray, el_get (by omega), List.getElem?_eq_getElem (by omega)]) hq).mono ?_
    rintro e w' ⟨rfl, rfl⟩
    exact ⟨_, rfl, Row.ofOwn encI1_len hrow rfl, Below.refl _ _⟩
  refine hK _ _ (.inr K3) ?_
  try simp only [Act.put, List.setIfInBounds_toArray, List.set_cons_zero, List.set_cons_succ]
  clear hb3 b3 t3 K2
  refine anyL_one (i := 7) (atS (atS (atS (atS (atS (atS (atS at0))))))) (by kernel_rfl) rfl (fun K hK => ?_)
  go_simp
  refine (spread_any n v2 (endL l n) _ _ (fillS l n) w1.heap.size w3 HO3.out (by omega) (by have h9 := (right_size HR.out).1; rw [HN.out] at h9; exact h9) (fun x hx => by
      obtain ⟨q, rfl, h9, _⟩ := endL_mem.1 hx
      omega) (by have h8 := endL_le l n; have h9 := (right_size HR.out).1; rw [HN.out] at h9; omega) HASK.out (fun q hq y hy => by
      obtain ⟨p, rfl, h9, _⟩ := fillS_mem.1 hy
      omega) (fun q hq => by
      have h8 := (right_size HR.out).2
      have h9 := fillS_len l n q (by rw [HN.out]; exact Nat.le_refl _)
      rw [← HN.out, List.take_length, HN.out] at h9
      omega)).mono ?_
  rintro e w4 ⟨v4, rfl, ⟨bs, hB4, hL4⟩, hg4⟩
  have K4 : HeldB w.heap.size z (.slice a n cap) w4 := K3.grown hg4 (fun e9 => by have h9 := (HO2.out.lt _ e9.symm).1; omega)
  have HB4 : Hid (Below w.heap.size w w4) := HB3.out.trans (gBelow hg4 (fun k hk => Nat.le_trans (by omega) (HO2.out.lt k hk).1) HB3.out.size)
  have HL4 : Hid (Least (BackC l) n bs) := hL4.iff (fun T => by
    have h9 := back_spread (l := l) (fun q hq c hc => by
      have h8 := List.all_eq_true.1 (right_st HR.out hq).2 c hc
      simp only [arcB, inB, Bool.and_eq_true, decide_eq_true_eq] at h8
      exact ⟨c.2.2.2.toNat, by omega, by omega⟩) T
    rw [HN.out] at h9
    exact h9)
  have HBB : Hid (Bools w4 v4 bs) := hB4
  refine hK _ _ (.inr K4) ?_
  try simp only [Act.put, List.setIfInBounds_toArray, List.set_cons_zero, List.set_cons_succ]
  clear hB4 hL4 hg4 K3
  refine anyL_one (i := 8) (atS (atS (atS (atS (atS (atS (atS (atS at0)))))))) (by kernel_rfl) rfl (fun K hK => ?_)
  go_simp
  refine hK _ _ (.inr K4) ?_
  try simp only [Act.put, List.setIfInBounds_toArray, List.set_cons_zero, List.set_cons_succ]
  refine anyL_one (i := 9) (atS (atS (atS (atS (atS (atS (atS (atS (atS at0))))))))) (by kernel_rfl) rfl (fun K hK => ?_)
  go_simp
  refine hK _ _ (.inr K4) (anyL_done (by kernel_rfl) (NoPanic.normal ?_))
  try simp only [Act.put, List.setIfInBounds_toArray, List.set_cons_zero, List.set_cons_succ]
  clear K4
  go_wp2
  exact bodyPost_ret (v := .tuple #[v4, .int .i64 0]) (by simp [results, Try.results13, go_sem]) rfl ⟨_, rfl, ⟨bs, HBB.out, HL4.out⟩, HB4.out⟩
set_option maxRecDepth 100000 in
theorem back_bad (v : Value) (m : Mc) (w : World) (h : Mach w v m) (hok : okM m) (r : Int) (hr : faultM m = r) (h0 : ¬ r = 0) :
    Calls Try.prog 13 #[v] w fun e w' => e = .returned (.tuple #[.slice none 0 0, .int .i64 r]) ∧ Below w.heap.size w w' := by
  obtain ⟨z, l⟩ := m
  obtain ⟨vs, rfl, hS⟩ := h
  obtain ⟨a, cap, rfl⟩ := hS.sl
  have HM : Hid (Mach w (.agg #[.int .i64 z, .slice a l.length cap]) (z, l)) := ⟨_, rfl, hS⟩
  have HK : Hid (okM (z, l)) := hok
  have HR : Hid (faultM (z, l) = r) := hr
  clear hS hok hr
  simp only
  have hne : (r != 0) = true := by simpa using h0
  generalize l.length = n at *
  go_enter Try.func13, Try.ntmps13
  go_wp2_with (first
    | (go_at_call 20; (with_reducible refine (coreCheck_any _ (z, l) _ (HM.out.later (B := w.heap.size) (by go_grown) (Nat.le_refl _)) HK.out _ HR.out).mono ?_); rintro e w1 ⟨rfl, hb⟩; obtain ⟨s1, b1, hb1⟩ := boxed hb (by simp); have HB1 : Hid (Below w.heap.size w w1) := hb1; clear b1 hb1 hb))
  exact bodyPost_ret (v := .tuple #[.slice none 0 0, .int .i64 r]) (by simp [results, Try.results13, go_sem]) rfl ⟨rfl, HB1.out⟩
theorem back_any (v : Value) (m : Mc) (w : World) (h : Mach w v m) (hok : okM m) (r : Int) (hr : faultM m = r) :
    Calls Try.prog 13 #[v] w fun e w' => ∃ v', e = .returned (.tuple #[v', .int .i64 r]) ∧ (∃ bs, Bools w' v' bs ∧ (if r = 0 then Least (BackC m.2) m.2.length bs else bs = [])) ∧ Below w.heap.size w w' := by
  by_cases h0 : r = 0
  · subst h0
    refine (back_ok v m w h hok hr).mono ?_
    rintro e w' ⟨v', he, ⟨bs, hB, hL⟩, hb⟩
    exact ⟨v', he, ⟨bs, hB, by rw [if_pos rfl]; exact hL⟩, hb⟩
  · refine (back_bad v m w h hok r hr h0).mono ?_
    rintro e w' ⟨he, hb⟩
    exact ⟨_, he, ⟨[], .inl ⟨rfl, rfl⟩, by rw [if_neg h0]⟩, hb⟩
end Go.Proofs.Ytfkiiedbcjbkiaa.Wt
