/- The program: without what leads nowhere. -/
import Derived.Test.YtfajkomajbhphaaJ10g
import Derived.Test.YtfajkomajbhphaaSy
namespace Go.Proofs.Ytfajkomajbhphaa.Wt
open Go.ChangeShapes Go.WideShapes Go.ChangeAt Go.RowKit
open Go.Proofs.Ytfajkomajbhphaa.Pl
set_option linter.unusedVariables false
set_option linter.unusedSimpArgs false
set_option maxRecDepth 100000 in
set_option maxHeartbeats 3200000 in
theorem trim_run (v : Value) (m : Mc) (w : World) (h : Mach w v m) (hok : okM m) (hr : faultM m = 0) :
    Calls Try.prog 20 #[v] w fun e w' => ∃ v', e = .returned (.tuple #[v', .int .i64 0]) ∧ (∃ aa, Least (AheadC m.1 m.2) m.2.length aa ∧ ∃ bs, Least (BackC m.2) m.2.length bs ∧ Mach w' v' (trimM m.1 m.2 (keptL aa bs m.2.length))) ∧ Below w.heap.size w w' := by
  obtain ⟨z, l⟩ := m
  obtain ⟨vs, rfl, hS⟩ := h
  obtain ⟨a, cap, rfl⟩ := hS.sl
  have HM : Hid (Mach w (.agg #[.int .i64 z, .slice a l.length cap]) (z, l)) := ⟨_, rfl, hS⟩
  have HK : Hid (okM (z, l)) := hok
  have HR : Hid (faultM (z, l) = 0) := hr
  have h60 := (right_size hr).1
  clear hS hok hr
  simp only
  generalize hn : l.length = n at *
  have HN : Hid (l.length = n) := hn
  clear hn
  go_enter Try.func20, Try.ntmps20
  go_wp2_with (first
    | (go_at_call 40; (with_reducible refine (ahead_ok _ (z, l) _ (HM.out.later (B := w.heap.size) (by go_grown) (Nat.le_refl _)) HK.out HR.out).mono ?_); rintro e w1 ⟨va1, rfl, ⟨aa, hBa, hLa⟩, hb⟩; obtain ⟨s1, k0, k1, hb1⟩ := boxedTwo hb (by simp); have HLa : Hid (Least (AheadC z l) n aa) := (by have h9 := hLa; simp only at h9; rw [HN.out] at h9; exact h9); have HBa : Hid (Bools w1 va1 aa) := hBa; have K0 : Hid (Blk w1 w.heap.size #[.int .i64 z, .slice a n cap] 24) := k0; have K1 : Hid (Blk w1 (w.heap.size + 1) #[.int .i64 0, .slice none 0 0] 24) := k1; have c0 := k0.cell 0 (v := .int .i64 z) rfl; have c1 := k0.cell 1 (v := .slice a n cap) rfl; have HB1 : Hid (Below w.heap.size w w1) := hb1; clear k0 k1 hb hb1 hLa hBa)
    | (go_at_call 41; (with_reducible refine (back_ok _ (z, l) _ (HM.out.later HB1.out (Nat.le_refl _)) HK.out HR.out).mono ?_); rintro e w2 ⟨vb1, rfl, ⟨bs, hBb, hLb⟩, hb⟩; have HLb : Hid (Least (BackC l) n bs) := (by have h9 := hLb; simp only at h9; rw [HN.out] at h9; exact h9); have HBb : Hid (Bools w2 vb1 bs) := hBb; have HBa2 : Hid (Bools w2 va1 aa) := HBa.out.later hb (Nat.le_refl _); have L0 : Hid (Blk w2 w.heap.size #[.int .i64 z, .slice a n cap] 24) := K0.out.below hb K0.out.lt; have L1 : Hid (Blk w2 (w.heap.size + 1) #[.int .i64 0, .slice none 0 0] 24) := K1.out.below hb K1.out.lt; have HB2 : Hid (Below w.heap.size w w2) := HB1.out.trans (hb.mono HB1.out.size); have hs2 : w.heap.size + 2 ≤ w2.heap.size := Nat.le_trans s1 hb.size; clear hb hBb hLb))
  clear HBa HB1 K0 K1 c0 c1
  have HS : HeldB w.heap.size z (.slice a n cap) w2.drew := L0.out.drew
  refine region_anyL (HeldB w.heap.size z (.slice a n cap)) 1000 (by kernel_rfl) ?_
  refine anyL_take (i := 0) (v := ?v0_1) at0 (by kernel_rfl) (by kernel_rfl) (by kernel_rfl) (by kernel_rfl) (fun _ _ _ h => h) rfl ?y0_1 HS ?r0_1
  case y0_1 => intro wx hx; obtain ⟨x0, x1⟩ := hx.two; go_simp; try (with_reducible rfl)
  simp only [Act.put, List.setIfInBounds_toArray, List.set_cons_zero, List.set_cons_succ]
  refine anyL_take (i := 1) (v := ?v1_2) (atS at0) (by kernel_rfl) (by kernel_rfl) (by kernel_rfl) (by kernel_rfl) (fun _ _ _ h => h) rfl ?y1_2 HS ?r1_2
  case y1_2 => intro wx hx; obtain ⟨x0, x1⟩ := hx.two; go_simp; try (with_reducible rfl)
  simp only [Act.put, List.setIfInBounds_toArray, List.set_cons_zero, List.set_cons_succ]
  refine anyL_take (i := 2) (v := ?v2_3) (atS (atS at0)) (by kernel_rfl) (by kernel_rfl) (by kernel_rfl) (by kernel_rfl) (fun _ _ _ h => h) rfl ?y2_3 HS ?r2_3
  case y2_3 => intro wx hx; obtain ⟨x0, x1⟩ := hx.two; go_simp; try (with_reducible rfl)
  simp only [Act.put, List.setIfInBounds_toArray, List.set_cons_zero, List.set_cons_succ]
  refine anyL_one (i := 3) (atS (atS (atS at0))) (by kernel_rfl) rfl (fun K hK => ?_)
  go_simp
  refine (numbered_any va1 vb1 aa bs n w2.drew (HBa2.out.later ((Below.refl w2.heap.size w2).drew) (Nat.le_refl _)) (HBb.out.later ((Below.refl w2.heap.size w2).drew) (Nat.le_refl _)) HLa.out.1 HLb.out.1 h60).mono ?_
  rintro e w3 ⟨vn, rfl, ⟨ns, hnn, hnl, hne⟩, hb3⟩
  have hb3' : Below w2.heap.size w2 w3 := below_undrewS hb3
  have HS3 : HeldB w.heap.size z (.slice a n cap) w3 := L0.out.below hb3' L0.out.lt
  have L3 : Hid (Blk w3 (w.heap.size + 1) #[.int .i64 0, .slice none 0 0] 24) := L1.out.below hb3' L1.out.lt
  have HB3 : Hid (Below w.heap.size w w3) := HB2.out.trans (hb3'.mono HB2.out.size)
  have s3 : w.heap.size + 2 ≤ w3.heap.size := Nat.le_trans hs2 hb3'.size
  have HNN : Hid (Nums w3 vn ns ∧ ns.length = n ∧ ∀ j, j < n → el ns j = placeI (keptL aa bs n) (j : Int)) := ⟨hnn, hnl, hne⟩
  refine hK _ _ (.inr HS3) ?_
  try simp only [Act.put, List.setIfInBounds_toArray, List.set_cons_zero, List.set_cons_succ]
  clear hb3 hb3' hnn hnl hne HS L0 L1 HB2
  refine anyL_one (i := 4) (atS (atS (atS (atS at0)))) (by kernel_rfl) rfl (fun K hK => ?_)
  go_simp
  have HOC := only_any z (.slice a n cap) l vn ns aa bs w3 (HM.out.later HB3.out (Nat.le_refl _)) HK.out HR.out HNN.out.1 (by rw [HN.out]; exact HNN.out.2.1) (by rw [HN.out]; exact HNN.out.2.2)
  rw [HN.out] at HOC
  refine HOC.mono ?_
  clear HOC
  rintro e w4 ⟨vt4, rfl, hm4, hb4⟩
  have HS4 : HeldB w.heap.size z (.slice a n cap) w4 := HS3.below hb4 (by omega)
  have L4 : Hid (Blk w4 (w.heap.size + 1) #[.int .i64 0, .slice none 0 0] 24) := L3.out.below hb4 (by omega)
  have HB4 : Hid (Below w.heap.size w w4) := HB3.out.trans (hb4.mono HB3.out.size)
  have HM4 : Hid (OwnSts w4 (w3.heap.size + 3) vt4 ((keptL aa bs n).map (trimS l (keptL aa bs n)))) := hm4
  obtain ⟨a4, cap4, hvt⟩ := hm4.sts.sl
  subst hvt
  refine hK _ _ (.inr HS4) ?_
  try simp only [Act.put, List.setIfInBounds_toArray, List.set_cons_zero, List.set_cons_succ]
  clear hb4 hm4 HS3 L3 HB3
  have f0 := L4.out.cell 0 (v := .int .i64 0) rfl
  have f1 := L4.out.cell 1 (v := .slice none 0 0) rfl
  have f2 := L4.out.fz 0
  have f3 := L4.out.fz 1
  have HTM : Hid (trimM z l (keptL aa bs n) = (placeI (keptL aa bs n) z, (keptL aa bs n).map (trimS l (keptL aa bs n)))) := rfl
  generalize hml : ((keptL aa bs n).map (trimS l (keptL aa bs n))).length = q4 at *
  generalize placeI (keptL aa bs n) z = z4 at *
  have HM5 : Hid (OwnSts ((w4.setCell ⟨w.heap.size + 1, 0, none⟩ (.int .i64 z4)).setCell ⟨w.heap.size + 1, 1, none⟩ (.slice a4 q4 cap4)) (w3.heap.size + 3) (.slice a4 q4 cap4) ((keptL aa bs n).map (trimS l (keptL aa bs n)))) := (HM4.out.setCell (by show w.heap.size + 1 < _; omega) _).setCell (by show w.heap.size + 1 < _; omega) _
  have HS5 : HeldB w.heap.size z (.slice a n cap) ((w4.setCell ⟨w.heap.size + 1, 0, none⟩ (.int .i64 z4)).setCell ⟨w.heap.size + 1, 1, none⟩ (.slice a4 q4 cap4)) := (HS4.setO _ _ (by show w.heap.size ≠ w.heap.size + 1; omega)).setO _ _ (by show w.heap.size ≠ w.heap.size + 1; omega)
  have L5 : Hid (Blk ((w4.setCell ⟨w.heap.size + 1, 0, none⟩ (.int .i64 z4)).setCell ⟨w.heap.size + 1, 1, none⟩ (.slice a4 q4 cap4)) (w.heap.size + 1) #[.int .i64 z4, .slice a4 q4 cap4] 24) := (L4.out.set 0 _).set 1 _
  have HB5 : Hid (Below w.heap.size w ((w4.setCell ⟨w.heap.size + 1, 0, none⟩ (.int .i64 z4)).setCell ⟨w.heap.size + 1, 1, none⟩ (.slice a4 q4 cap4))) := (HB4.out.setCell (by show w.heap.size ≤ w.heap.size + 1; omega) _).setCell (by show w.heap.size ≤ w.heap.size + 1; omega) _
  clear hml
  refine anyL_one (i := 5) (atS (atS (atS (atS (atS at0))))) (by kernel_rfl) rfl (fun K hK => ?_)
  go_simp
  generalize (w4.setCell ⟨w.heap.size + 1, 0, none⟩ (.int .i64 z4)).setCell ⟨w.heap.size + 1, 1, none⟩ (.slice a4 q4 cap4) = w5 at *
  refine hK _ _ (.inr HS5) ?_
  try simp only [Act.put, List.setIfInBounds_toArray, List.set_cons_zero, List.set_cons_succ]
  clear f0 f1 f2 f3 HS4 L4 HM4
  refine anyL_one (i := 6) (atS (atS (atS (atS (atS (atS at0)))))) (by kernel_rfl) rfl (fun K hK => ?_)
  go_simp
  refine hK _ _ (.inr HS5) (anyL_done (by kernel_rfl) (NoPanic.normal ?_))
  try simp only [Act.put, List.setIfInBounds_toArray, List.set_cons_zero, List.set_cons_succ]
  have d0 := L5.out.cell 0 (v := .int .i64 z4) rfl
  have d1 := L5.out.cell 1 (v := .slice a4 q4 cap4) rfl
  clear HS5
  go_wp2
  exact bodyPost_ret (v := .tuple #[.agg #[.int .i64 z4, .slice a4 q4 cap4], .int .i64 0]) (by simp [results, Try.results20, go_sem, *]) rfl ⟨_, rfl, ⟨aa, HLa.out, bs, HLb.out, by rw [HTM.out]; exact ⟨_, rfl, HM5.out.sts⟩⟩, HB5.out⟩
set_option maxRecDepth 100000 in
theorem trim_bad (v : Value) (m : Mc) (w : World) (h : Mach w v m) (hok : okM m) (r : Int) (hr : faultM m = r) (h0 : ¬ r = 0) :
    Calls Try.prog 20 #[v] w fun e w' => e = .returned (.tuple #[.agg #[.int .i64 0, .slice none 0 0], .int .i64 r]) ∧ Below w.heap.size w w' := by
  obtain ⟨z, l⟩ := m
  obtain ⟨vs, rfl, hS⟩ := h
  obtain ⟨a, cap, rfl⟩ := hS.sl
  have HM : Hid (Mach w (.agg #[.int .i64 z, .slice a l.length cap]) (z, l)) := ⟨_, rfl, hS⟩
  have HK : Hid (okM (z, l)) := hok
  have HR : Hid (faultM (z, l) = r) := hr
  have H0 : Hid (¬ r = 0) := h0
  clear hS hok hr
  simp only
  have hne : (r != 0) = true := by simpa using h0
  generalize l.length = n at *
  go_enter Try.func20, Try.ntmps20
  go_wp2_with (first
    | (go_at_call 40; (with_reducible refine (ahead_bad _ (z, l) _ (HM.out.later (B := w.heap.size) (by go_grown) (Nat.le_refl _)) HK.out r HR.out H0.out).mono ?_); rintro e w1 ⟨rfl, hb⟩; obtain ⟨s1, k0, k1, hb1⟩ := boxedTwo hb (by simp); have HB1 : Hid (Below w.heap.size w w1) := hb1; have e0 := k1.cell 0 (v := .int .i64 0) rfl; have e1 := k1.cell 1 (v := .slice none 0 0) rfl; have f0 := k1.fz 0; have f1 := k1.fz 1; clear hb hb1 k0 k1))
  exact bodyPost_ret (v := .tuple #[.agg #[.int .i64 0, .slice none 0 0], .int .i64 r]) (by simp [results, Try.results20, go_sem, *]) rfl ⟨rfl, by (have h := HB1.out); go_grown⟩
end Go.Proofs.Ytfajkomajbhphaa.Wt
