/- The program: how far it is from the start, and to an end. -/
import Derived.Test.YtfhjncpakgailaaGreatDoorPaH
import Derived.Test.YtfhjncpakgailaaGreatDoorPaI
import Derived.Test.YtfhjncpakgailaaGreatDoorPah
namespace Go.Proofs.YtfhjncpakgailaaGreatDoor.Wt
open Go.ChangeShapes Go.WideShapes Go.ChangeAt Go.RowKit
open Go.Proofs.YtfhjncpakgailaaGreatDoor.Pl
set_option linter.unusedVariables false
set_option linter.unusedSimpArgs false
def HeldDp (B : Nat) (z : Int) (v : Value) (w : World) : Prop := Blk w B #[.int .i64 z, v] 29
theorem HeldDp.two {B : Nat} {z : Int} {v : Value} {w : World} (h : HeldDp B z v w) : w.cell? ⟨B, 0, none⟩ = some (.int .i64 z) ∧ w.cell? ⟨B, 1, none⟩ = some v := ⟨h.cell 0 rfl, h.cell 1 rfl⟩
theorem tab_rows {w : World} {base g n : Nat} {rows : List Value} {F : List Ar} {f : Nat → List Ar} (h : Dw.WayTab w base g n rows f) : ∀ q, q < n → w.cell? ⟨g, q, none⟩ = some (el rows q) ∧ Row 2 Dw.encD w (el rows q) (stpW F f n q) := fun q hq => by
 rw [stpW_at hq]
 exact ⟨h.cell hq, Row.ofOwn Dw.encD_len (h.row q hq) rfl⟩
set_option maxRecDepth 100000 in
set_option maxHeartbeats 1600000 in
theorem endsP_ok (v : Value) (m : Mc) (w : World) (h : Mach w v m) (hok : okM m) (hr : faultM m = 0) :
  Calls Tryz.prog 44 #[v] w fun e w' => LstRes (LstAns (EndC m.2) m.2.length) w e w' := by
 obtain ⟨z, l⟩ := m
 obtain ⟨vs, rfl, hS⟩ := h
 obtain ⟨a, cap, rfl⟩ := hS.sl
 have HM : Hid (Mach w (.agg #[.int .i64 z, .slice a l.length cap]) (z, l)) := ⟨_, rfl, hS⟩
 have HK : Hid (okM (z, l)) := hok
 have HR : Hid (faultM (z, l) = 0) := hr
 have HZ : Hid (-1 ≤ z) := (right_parts hr).1.1
 have H60 : Hid (l.length ≤ 60) := (right_size hr).1
 have HSR := hidP (stpE_right (m := (z, l)) hr)
 have HPR := hidP (end_rch (m := (z, l)) hr)
 clear hS hok hr
 simp only at HSR HPR ⊢
 generalize hn : l.length = n at *
 have HN : Hid (l.length = n) := hn
 clear hn
 go_enter Tryz.func44, Tryz.ntmps44
 go_wp2_with (first
  | (go_at_call 28; (with_reducible refine (coreCheck_any _ (z, l) _ (HM.out.later (B := w.heap.size) (by go_grown) (Nat.le_refl _)) HK.out 0 HR.out).mono ?_); rintro e w1 ⟨rfl, hb⟩; obtain ⟨s1, b1, hb1⟩ := boxed hb (by simp); have K0 : HeldDp w.heap.size z (.slice a n cap) w1 := b1; have HB1 : Hid (Below w.heap.size w w1) := hb1; clear b1 hb1 hb))
 have K1 : HeldDp w.heap.size z (.slice a n cap) w1.drew := K0.drew
 refine region_anyL (HeldDp w.heap.size z (.slice a n cap)) 1000 (by kernel_rfl) ?_
 refine anyL_tk (i := 0) (v := ?v0_1) aZ0 (by kernel_rfl) ?y0_1 K1 ?r0_1
 case y0_1 => intro wx hx; obtain ⟨x0, x1⟩ := hx.two; go_simp; try (with_reducible rfl)
 simp only [Act.put, List.setIfInBounds_toArray, List.set_cons_zero, List.set_cons_succ]
 refine anyL_tk (i := 2) (v := ?v2_2) aZ2 (by kernel_rfl) ?y2_2 K1 ?r2_2
 case y2_2 => intro wx hx; obtain ⟨x0, x1⟩ := hx.two; go_simp; try (with_reducible rfl)
 simp only [Act.put, List.setIfInBounds_toArray, List.set_cons_zero, List.set_cons_succ]
 refine anyL_one (i := 1) aZ1 (by kernel_rfl) rfl (fun K hK => ?_)
 go_simp
 refine (Dw.ends_any z _ l _ (HM.out.later HB1.out.drew (Nat.le_refl _)) HR.out).mono ?_
 rintro e w2 ⟨v2, rfl, ho2, hb2⟩
 rw [HN.out] at ho2
 have K2 : HeldDp w.heap.size z (.slice a n cap) w2 := K1.below hb2 s1
 have HB2 : Hid (Below w.heap.size w w2) := HB1.out.trans ((Dw.below_undrewD hb2).mono HB1.out.size)
 have HO2 : Hid (Row 2 Dw.encD w2 v2 (endW l n)) := ho2
 have s2 : w1.heap.size ≤ w2.heap.size := hb2.size
 refine hK _ _ (.inr K2) ?_
 try simp only [Act.put, List.setIfInBounds_toArray, List.set_cons_zero, List.set_cons_succ]
 clear hb2 ho2 K0 K1
 refine anyL_one (i := 3) aZ3 (by kernel_rfl) rfl (fun K hK => ?_)
 go_simp
 refine (Dw.backward_any z _ l _ (HM.out.later HB2.out (Nat.le_refl _)) HR.out).mono ?_
 rintro e w3 ⟨rfl, ⟨rows, t3⟩, hb3⟩
 rw [HN.out] at t3
 have K3 : HeldDp w.heap.size z (.slice a n cap) w3 := K2.below hb3 (by omega)
 have HB3 : Hid (Below w.heap.size w w3) := HB2.out.trans (hb3.mono HB2.out.size)
 have HO3 : Hid (Row 2 Dw.encD w3 v2 (stpW (endW l n) (filS bkK l n) n n)) := by have h9 := HO2.out.later hb3 (Nat.le_refl _); show Row _ _ _ _ _; rw [stpW_src]; exact h9
 have HLA : Hid (Calls Tryz.prog 74 #[v2, .slice (some ⟨w2.heap.size + 1, 0, none⟩) n n] w3 fun e w' => LstRes (LstAns (EndC l) n) w3 e w') := Dw.least_any n (w2.heap.size + 1) v2 rows w3 H60.out HSR.out HPR.out HO3.out t3.blk.lt (tab_rows t3)
 refine hK _ _ (.inr K3) ?_
 try simp only [Act.put, List.setIfInBounds_toArray, List.set_cons_zero, List.set_cons_succ, HN.out]
 clear t3 K2
 refine anyL_one (i := 4) aZ4 (by kernel_rfl) rfl (fun K hK => ?_)
 go_simp
 refine HLA.out.mono ?_
 rintro e w4 ⟨v4, vs4, ec4, rfl, hA4, hN4, hb4⟩
 have K4 : HeldDp w.heap.size z (.slice a n cap) w4 := K3.below hb4 (by have := hb3.size; omega)
 have HB4 : Hid (Below w.heap.size w w4) := HB3.out.trans (hb4.mono HB3.out.size)
 have HA4 := hidP hA4
 have HN4 := hidP hN4
 refine hK _ _ (.inr K4) ?_
 try simp only [Act.put, List.setIfInBounds_toArray, List.set_cons_zero, List.set_cons_succ]
 clear hA4 hN4 hb4 hb3 K3
 refine anyL_tk (i := 5) (v := ?v5_3) aZ5 (by kernel_rfl) ?y5_3 K4 ?r5_3
 case y5_3 => intro wx hx; obtain ⟨x0, x1⟩ := hx.two; go_simp; try (with_reducible rfl)
 simp only [Act.put, List.setIfInBounds_toArray, List.set_cons_zero, List.set_cons_succ]
 refine anyL_tk (i := 6) (v := ?v6_4) aZ6 (by kernel_rfl) ?y6_4 K4 ?r6_4
 case y6_4 => intro wx hx; obtain ⟨x0, x1⟩ := hx.two; go_simp; try (with_reducible rfl)
 simp only [Act.put, List.setIfInBounds_toArray, List.set_cons_zero, List.set_cons_succ]
 refine anyL_one (i := 7) aZ7 (by kernel_rfl) rfl (fun K hK => ?_)
 go_simp
 refine hK _ _ (.inr K4) ?_
 try simp only [Act.put, List.setIfInBounds_toArray, List.set_cons_zero, List.set_cons_succ]
 refine anyL_one (i := 8) aZ8 (by kernel_rfl) rfl (fun K hK => ?_)
 go_simp
 refine hK _ _ (.inr K4) (anyL_done (by kernel_rfl) (NoPanic.normal ?_))
 try simp only [Act.put, List.setIfInBounds_toArray, List.set_cons_zero, List.set_cons_succ]
 clear K4
 go_wp2
 exact bodyPost_ret (v := .tuple #[v4, .int .i64 ec4]) (by simp [results, Tryz.results44, go_sem]) rfl ⟨_, vs4, ec4, rfl, HA4.out, HN4.out, HB4.out⟩
set_option maxRecDepth 100000 in
theorem endsP_bad (v : Value) (m : Mc) (w : World) (h : Mach w v m) (hok : okM m) (r : Int) (hr : faultM m = r) (h0 : ¬ r = 0) :
  Calls Tryz.prog 44 #[v] w fun e w' => e = .returned (.tuple #[.slice none 0 0, .int .i64 r]) ∧ Below w.heap.size w w' := by
 obtain ⟨z, l⟩ := m
 obtain ⟨vs, rfl, hS⟩ := h
 obtain ⟨a, cap, rfl⟩ := hS.sl
 have HM : Hid (Mach w (.agg #[.int .i64 z, .slice a l.length cap]) (z, l)) := ⟨_, rfl, hS⟩
 have HK : Hid (okM (z, l)) := hok
 have HR : Hid (faultM (z, l) = r) := hr
 clear hS hok hr
 simp only
 have hne : (r != 0) = true := by simpa using h0
 generalize l.length = n at *
 go_enter Tryz.func44, Tryz.ntmps44
 go_wp2_with (first
  | (go_at_call 28; (with_reducible refine (coreCheck_any _ (z, l) _ (HM.out.later (B := w.heap.size) (by go_grown) (Nat.le_refl _)) HK.out r HR.out).mono ?_); rintro e w1 ⟨rfl, hb⟩; obtain ⟨s1, b1, hb1⟩ := boxed hb (by simp); have HB1 : Hid (Below w.heap.size w w1) := hb1; clear b1 hb1 hb))
 go_ret2
 exact ⟨rfl, HB1.out⟩
theorem endsP_any (v : Value) (m : Mc) (w : World) (h : Mach w v m) (hok : okM m) :
  Calls Tryz.prog 44 #[v] w fun e w' => LstRes (DstAns m (EndC m.2)) w e w' := by
 by_cases hr : faultM m = 0
 ·refine (endsP_ok v m w h hok hr).mono ?_
  rintro e w' ⟨vr, vs, ec, rfl, h1, h2, h3⟩
  exact ⟨vr, vs, ec, rfl, .inr ⟨hr, h1⟩, h2, h3⟩
 ·refine (endsP_bad v m w h hok _ rfl hr).mono ?_
  rintro e w' ⟨rfl, h3⟩
  exact ⟨_, [], _, rfl, .inl ⟨hr, rfl, rfl⟩, .inl ⟨rfl, rfl⟩, h3⟩
end Go.Proofs.YtfhjncpakgailaaGreatDoor.Wt
