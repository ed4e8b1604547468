/- The program: how far it is from the start, and to an end. -/
import Derived.Test.YtobhjhjfannnnaaUar
import Derived.Test.YtobhjhjfannnnaaUas
import Derived.Test.YtobhjhjfannnnaaUat
import Derived.Test.YtobhjhjfannnnaaUau
import Derived.Test.YtobhjhjfannnnaaUaf
import Derived.Test.YtobhjhjfannnnaaUao
import Derived.Test.YtobhjhjfannnnaaUac
import Derived.Test.YtobhjhjfannnnaaUan
import Derived.Test.YtobhjhjfannnnaaUag
namespace Go.Proofs.Ytobhjhjfannnnaa.Wt
open Go.ChangeShapes Go.WideShapes Go.ChangeAt Go.RowKit
open Go.Proofs.Ytobhjhjfannnnaa.Pl
set_option linter.unusedVariables false
set_option linter.unusedSimpArgs false
def HeldDp (B : Nat) (z : Int) (v : Value) (w : World) : Prop := Blk w B #[.int .i64 z, v] 24
theorem HeldDp.two {B : Nat} {z : Int} {v : Value} {w : World} (h : HeldDp B z v w) : w.cell? ⟨B, 0, none⟩ = some (.int .i64 z) ∧ w.cell? ⟨B, 1, none⟩ = some v := ⟨h.cell 0 rfl, h.cell 1 rfl⟩
theorem tab_rows {w : World} {base g n : Nat} {rows : List Value} {F : List Ar} {f : Nat → List Ar} (h : Dw.WayTab w base g n rows f) : ∀ q, q < n → w.cell? ⟨g, q, none⟩ = some (el rows q) ∧ Row 2 Dw.encD w (el rows q) (stpW F f n q) := fun q hq => by
 rw [stpW_at hq]
 exact ⟨h.cell hq, Row.ofOwn Dw.encD_len (h.row q hq) rfl⟩
theorem nums_cells {w : World} {v : Value} {xs : List Int} (h : Nums w v xs) : ∃ a cap, v = .slice a xs.length cap ∧ ∀ j, j < xs.length → ∃ b off, a = some ⟨b, off, none⟩ ∧ w.cell? ⟨b, off + j, none⟩ = some (.int .i64 (el xs j)) := by
 by_cases hz : 0 < xs.length
 ·obtain ⟨b, off, cap, hv, hb, hc⟩ := Row.plain h (fun x => by rw [encI1_len]; omega) hz
  refine ⟨_, cap, hv, fun j hj => ⟨b, off, rfl, ?_⟩⟩
  have h9 := hc j hj 0 _ rfl
  rw [Nat.mul_one, Nat.add_zero] at h9
  exact h9
 ·obtain ⟨a, cap, hv⟩ := Row.sl h
  exact ⟨a, cap, hv, fun j hj => absurd hj (by omega)⟩
set_option maxRecDepth 100000 in
set_option maxHeartbeats 1600000 in
theorem endsP_ok (v : Value) (m : Mc) (w : World) (h : Mach w v m) (hok : okM m) (hr : faultM m = 0) :
  Calls Try.prog 33 #[v] w fun e w' => LstRes (LstAns (EndC m.2) m.2.length) w e w' := by
 obtain ⟨z, l⟩ := m
 obtain ⟨vs, rfl, hS⟩ := h
 obtain ⟨a, cap, rfl⟩ := hS.sl
 have HM : Hid (Mach w (.agg #[.int .i64 z, .slice a l.length cap]) (z, l)) := ⟨_, rfl, hS⟩
 have HK : Hid (okM (z, l)) := hok
 have HR : Hid (faultM (z, l) = 0) := hr
 have HZ : Hid (-1 ≤ z) := (right_parts hr).1.1
 have H60 : Hid (l.length ≤ 60) := (right_size hr).1
 have HSR := hidP (stpE_right (m := (z, l)) hr)
 have HPR := hidP (end_rch (m := (z, l)) hr)
 clear hS hok hr
 simp only at HSR HPR ⊢
 generalize hn : l.length = n at *
 have HN : Hid (l.length = n) := hn
 clear hn
 go_enter Try.func33, Try.ntmps33
 go_wp2_with (first
  | (go_at_call 32; (with_reducible refine (coreCheck_any _ (z, l) _ (HM.out.later (B := w.heap.size) (by go_grown) (Nat.le_refl _)) HK.out 0 HR.out).mono ?_); rintro e w1 ⟨rfl, hb⟩; obtain ⟨s1, b1, hb1⟩ := boxed hb (by simp); have K0 : HeldDp w.heap.size z (.slice a n cap) w1 := b1; have HB1 : Hid (Below w.heap.size w w1) := hb1; clear b1 hb1 hb))
 have K1 : HeldDp w.heap.size z (.slice a n cap) w1.drew := K0.drew
 refine region_anyL (HeldDp w.heap.size z (.slice a n cap)) 1000 (by kernel_rfl) ?_
 refine anyL_tk (i := 0) (v := ?v0_1) aZ0 (by kernel_rfl) ?y0_1 K1 ?r0_1
 case y0_1 => intro wx hx; obtain ⟨x0, x1⟩ := hx.two; go_simp; try (with_reducible rfl)
 simp only [Act.put, List.setIfInBounds_toArray, List.set_cons_zero, List.set_cons_succ]
 refine anyL_tk (i := 2) (v := ?v2_2) aZ2 (by kernel_rfl) ?y2_2 K1 ?r2_2
 case y2_2 => intro wx hx; obtain ⟨x0, x1⟩ := hx.two; go_simp; try (with_reducible rfl)
 simp only [Act.put, List.setIfInBounds_toArray, List.set_cons_zero, List.set_cons_succ]
 refine anyL_one (i := 1) aZ1 (by kernel_rfl) rfl (fun K hK => ?_)
 go_simp
 refine (Dw.ends_any z _ l _ (HM.out.later HB1.out.drew (Nat.le_refl _)) HR.out).mono ?_
 rintro e w2 ⟨v2, rfl, ho2, hb2⟩
 rw [HN.out] at ho2
 have K2 : HeldDp w.heap.size z (.slice a n cap) w2 := K1.below hb2 s1
 have HB2 : Hid (Below w.heap.size w w2) := HB1.out.trans ((Dw.below_undrewD hb2).mono HB1.out.size)
 have HO2 : Hid (Row 2 Dw.encD w2 v2 (endW l n)) := ho2
 have s2 : w1.heap.size ≤ w2.heap.size := hb2.size
 refine hK _ _ (.inr K2) ?_
 try simp only [Act.put, List.setIfInBounds_toArray, List.set_cons_zero, List.set_cons_succ]
 clear hb2 ho2 K0 K1
 refine anyL_one (i := 3) aZ3 (by kernel_rfl) rfl (fun K hK => ?_)
 go_simp
 refine (Dw.backward_any z _ l _ (HM.out.later HB2.out (Nat.le_refl _)) HR.out).mono ?_
 rintro e w3 ⟨rfl, ⟨rows, t3⟩, hb3⟩
 rw [HN.out] at t3
 have K3 : HeldDp w.heap.size z (.slice a n cap) w3 := K2.below hb3 (by omega)
 have HB3 : Hid (Below w.heap.size w w3) := HB2.out.trans (hb3.mono HB2.out.size)
 have HO3 : Hid (Row 2 Dw.encD w3 v2 (stpW (endW l n) (filS bkK l n) n n)) := by have h9 := HO2.out.later hb3 (Nat.le_refl _); show Row _ _ _ _ _; rw [stpW_src]; exact h9
 have HLA : Hid (Calls Try.prog 62 #[v2, .slice (some ⟨w2.heap.size + 1, 0, none⟩) n n] w3 fun e w' => LstRes (LstAns (EndC l) n) w3 e w') := Dw.least_any n (w2.heap.size + 1) v2 rows w3 H60.out HSR.out HPR.out HO3.out t3.blk.lt (tab_rows t3)
 refine hK _ _ (.inr K3) ?_
 try simp only [Act.put, List.setIfInBounds_toArray, List.set_cons_zero, List.set_cons_succ, HN.out]
 clear t3 K2
 refine anyL_one (i := 4) aZ4 (by kernel_rfl) rfl (fun K hK => ?_)
 go_simp
 refine HLA.out.mono ?_
 rintro e w4 ⟨v4, vs4, ec4, rfl, hA4, hN4, hb4⟩
 have K4 : HeldDp w.heap.size z (.slice a n cap) w4 := K3.below hb4 (by have := hb3.size; omega)
 have HB4 : Hid (Below w.heap.size w w4) := HB3.out.trans (hb4.mono HB3.out.size)
 have HA4 := hidP hA4
 have HN4 := hidP hN4
 refine hK _ _ (.inr K4) ?_
 try simp only [Act.put, List.setIfInBounds_toArray, List.set_cons_zero, List.set_cons_succ]
 clear hA4 hN4 hb4 hb3 K3
 refine anyL_tk (i := 5) (v := ?v5_3) aZ5 (by kernel_rfl) ?y5_3 K4 ?r5_3
 case y5_3 => intro wx hx; obtain ⟨x0, x1⟩ := hx.two; go_simp; try (with_reducible rfl)
 simp only [Act.put, List.setIfInBounds_toArray, List.set_cons_zero, List.set_cons_succ]
 refine anyL_tk (i := 6) (v := ?v6_4) aZ6 (by kernel_rfl) ?y6_4 K4 ?r6_4
 case y6_4 => intro wx hx; obtain ⟨x0, x1⟩ := hx.two; go_simp; try (with_reducible rfl)
 simp only [Act.put, List.setIfInBounds_toArray, List.set_cons_zero, List.set_cons_succ]
 refine anyL_one (i := 7) aZ7 (by kernel_rfl) rfl (fun K hK => ?_)
 go_simp
 refine hK _ _ (.inr K4) ?_
 try simp only [Act.put, List.setIfInBounds_toArray, List.set_cons_zero, List.set_cons_succ]
 refine anyL_one (i := 8) aZ8 (by kernel_rfl) rfl (fun K hK => ?_)
 go_simp
 refine hK _ _ (.inr K4) (anyL_done (by kernel_rfl) (NoPanic.normal ?_))
 try simp only [Act.put, List.setIfInBounds_toArray, List.set_cons_zero, List.set_cons_succ]
 clear K4
 go_wp2
 exact bodyPost_ret (v := .tuple #[v4, .int .i64 ec4]) (by simp [results, Try.results33, go_sem]) rfl ⟨_, vs4, ec4, rfl, HA4.out, HN4.out, HB4.out⟩
set_option maxRecDepth 100000 in
theorem endsP_bad (v : Value) (m : Mc) (w : World) (h : Mach w v m) (hok : okM m) (r : Int) (hr : faultM m = r) (h0 : ¬ r = 0) :
  Calls Try.prog 33 #[v] w fun e w' => e = .returned (.tuple #[.slice none 0 0, .int .i64 r]) ∧ Below w.heap.size w w' := by
 obtain ⟨z, l⟩ := m
 obtain ⟨vs, rfl, hS⟩ := h
 obtain ⟨a, cap, rfl⟩ := hS.sl
 have HM : Hid (Mach w (.agg #[.int .i64 z, .slice a l.length cap]) (z, l)) := ⟨_, rfl, hS⟩
 have HK : Hid (okM (z, l)) := hok
 have HR : Hid (faultM (z, l) = r) := hr
 clear hS hok hr
 simp only
 have hne : (r != 0) = true := by simpa using h0
 generalize l.length = n at *
 go_enter Try.func33, Try.ntmps33
 go_wp2_with (first
  | (go_at_call 32; (with_reducible refine (coreCheck_any _ (z, l) _ (HM.out.later (B := w.heap.size) (by go_grown) (Nat.le_refl _)) HK.out r HR.out).mono ?_); rintro e w1 ⟨rfl, hb⟩; obtain ⟨s1, b1, hb1⟩ := boxed hb (by simp); have HB1 : Hid (Below w.heap.size w w1) := hb1; clear b1 hb1 hb))
 go_ret2
 exact ⟨rfl, HB1.out⟩
theorem endsP_any (v : Value) (m : Mc) (w : World) (h : Mach w v m) (hok : okM m) :
  Calls Try.prog 33 #[v] w fun e w' => LstRes (DstAns m (EndC m.2)) w e w' := by
 by_cases hr : faultM m = 0
 ·refine (endsP_ok v m w h hok hr).mono ?_
  rintro e w' ⟨vr, vs, ec, rfl, h1, h2, h3⟩
  exact ⟨vr, vs, ec, rfl, .inr ⟨hr, h1⟩, h2, h3⟩
 ·refine (endsP_bad v m w h hok _ rfl hr).mono ?_
  rintro e w' ⟨rfl, h3⟩
  exact ⟨_, [], _, rfl, .inl ⟨hr, rfl, rfl⟩, .inl ⟨rfl, rfl⟩, h3⟩
theorem least_cases {z : Int} {l : List St} {vs : List Int} {ec : Int} {w : World} {v : Value} (hA : DstAns (z, l) (EndC l) vs ec) (hN : Nums w v vs) :
  (ec ≠ 0 ∧ (ec != 0) = true) ∨ (ec = 0 ∧ z = -1) ∨ (ec = 0 ∧ ∃ q : Nat, z = (q : Int) ∧ ((q : Int) == -1) = false ∧ ∃ b off cap, v = .slice (some ⟨b, off, none⟩) vs.length cap ∧ w.cell? ⟨b, off + q, none⟩ = some (.int .i64 (el vs q)) ∧ (q : Int) < ((vs.length : Nat) : Int)) := by
 by_cases he : ec = 0
 ·subst he
  by_cases hz : z = -1
  ·exact .inr (.inl ⟨rfl, hz⟩)
  ·have hln := hA.len
   simp only at hln
   obtain ⟨a1, cap1, hv, hcl⟩ := nums_cells hN
   obtain ⟨b2, off2, ha2, hcq⟩ := hcl z.toNat (by omega)
   subst ha2
   exact .inr (.inr ⟨rfl, z.toNat, by omega, by simp; omega, b2, off2, cap1, hv, hcq, by omega⟩)
 ·exact .inl ⟨he, by simpa using he⟩
set_option maxRecDepth 100000 in
set_option maxHeartbeats 1600000 in
theorem leastP_any (v : Value) (m : Mc) (w : World) (h : Mach w v m) (hok : okM m) :
  Calls Try.prog 22 #[v] w fun e w' => ∃ x ec : Int, e = .returned (.tuple #[.int .i64 x, .int .i64 ec]) ∧ LpaAns m x ec ∧ Below w.heap.size w w' := by
 obtain ⟨z, l⟩ := m
 obtain ⟨vs, rfl, hS⟩ := h
 obtain ⟨a, cap, rfl⟩ := hS.sl
 have HM : Hid (Mach w (.agg #[.int .i64 z, .slice a l.length cap]) (z, l)) := ⟨_, rfl, hS⟩
 have HK : Hid (okM (z, l)) := hok
 clear hS hok
 simp only
 generalize hn : l.length = n at *
 have HN : Hid (l.length = n) := hn
 clear hn
 have HCL : Hid (∀ W, Below w.heap.size w W → Calls Try.prog 33 #[.agg #[.int .i64 z, .slice a n cap]] W fun e w' => LstRes (DstAns (z, l) (EndC l)) W e w') := fun W hW => endsP_any _ (z, l) W (HM.out.later hW (Nat.le_refl _)) HK.out
 go_enter Try.func22, Try.ntmps22
 go_wp2_with (first
  | (go_at_call 33; ((with_reducible refine (HCL.out _ (by go_grown)).mono ?_); rintro e w1 ⟨v1, vs1, ec1, rfl, hA1, hN1, hb⟩; obtain ⟨s1, b1, hb1⟩ := boxed hb (by simp); have c0 := b1.cell 0 (v := .int .i64 z) rfl; have HB1 := hidP hb1; have HA1 := hidP hA1; have HN1 := hidP hN1; clear b1 hb1 hb hA1 hN1; rcases least_cases HA1.out HN1.out with ⟨he, heb⟩ | ⟨rfl, rfl⟩ | ⟨rfl, q, rfl, hzb, b2, off2, cap1, rfl, hcq, hqn⟩)))
 all_goals first
  | (go_ret2; exact ⟨_, _, rfl, ⟨vs1, ec1, HA1.out, .inl ⟨he, rfl, rfl⟩⟩, HB1.out⟩)
  | (go_ret2; exact ⟨_, _, rfl, ⟨vs1, 0, HA1.out, .inr ⟨rfl, rfl, by rw [if_pos (by show (-1 : Int) < 0; decide)]⟩⟩, HB1.out⟩)
  | (go_ret2; exact ⟨_, _, rfl, ⟨vs1, 0, HA1.out, .inr ⟨rfl, rfl, by rw [if_neg (by show ¬ (q : Int) < 0; omega)]; simp only [Int.toNat_natCast]⟩⟩, HB1.out⟩)
end Go.Proofs.Ytobhjhjfannnnaa.Wt
namespace Go.Proofs.Ytobhjhjfannnnaa.Wt
open Go.ChangeShapes Go.WideShapes Go.ChangeAt Go.RowKit
open Go.Proofs.Ytobhjhjfannnnaa.Pl
set_option linter.unusedVariables false
def PthRes (Q : Int → List Nat → Int → Prop) (w : World) (e : Ending) (w' : World) : Prop := ∃ va L, ∃ wt ec : Int, e = .returned (.tuple #[.agg #[.int .i64 wt, va], .int .i64 ec]) ∧ Q wt L ec ∧ Nums w' va (L.map fun i : Nat => (i : Int)) ∧ Below w.heap.size w w'
theorem nums_nil (w : World) : Nums w (.slice none 0 0) (([] : List Nat).map fun i : Nat => (i : Int)) := .inl ⟨rfl, rfl⟩
end Go.Proofs.Ytobhjhjfannnnaa.Wt
namespace Go.Proofs.Ytobhjhjfannnnaa.Bw
open Go.ChangeShapes Go.WideShapes Go.ChangeAt Go.RowKit
open Go.Proofs.Ytobhjhjfannnnaa.Pl Go.Proofs.Ytobhjhjfannnnaa.Wt
set_option linter.unusedVariables false
set_option linter.unusedSimpArgs false
theorem res_best (tm : Array Value) (W : World) (R : Nat) (ec : Int) (x0 x1 : Value) (hB : Blk W R #[x0, x1] 28) (h2 : tm.getD 2 undef = .pointer (some ⟨R, 0, none⟩)) (h3 : tm.getD 3 undef = .int .i64 ec) : (results Try.f10 tm).run Try.prog W = .ok (.tuple #[.agg #[x0, x1], .int .i64 ec]) W := by
 have c0 := hB.cell 0 (v := x0) rfl
 have c1 := hB.cell 1 (v := x1) rfl
 simp only [Array.getD_eq_getD_getElem?] at h2 h3
 simp [results, Try.results10, go_sem, h2, h3, c0, c1]
theorem best_cases {m : Mc} {x ec : Int} (h : LpaAns m x ec) : (ec ≠ 0 ∧ BestAns m 0 [] ec) ∨ (ec = 0 ∧ x = 1000000001 ∧ BestAns m 0 [] 12) ∨ (ec = 0 ∧ x ≠ 1000000001 ∧ faultM m = 0 ∧ 0 ≤ m.1 ∧ ∃ vs, DstAns m (EndC m.2) vs 0 ∧ x = el vs m.1.toNat ∧ FrT m.2 vs ∧ ∃ k, k < m.2.length ∧ LenA m.2 vs m.1.toNat k ∧ ∀ L, BstW m.2 vs k m.1.toNat L → BestAns m x L 0) := by
 obtain ⟨vs, f, hd, h⟩ := h
 rcases h with ⟨h0, rfl, rfl⟩ | ⟨rfl, rfl, hx⟩
 ·exact .inl ⟨h0, vs, ec, hd, .inl ⟨h0, rfl, rfl, rfl⟩⟩
 ·have hf : faultM m = 0 := by
   rcases hd with ⟨h0, _, h1⟩ | ⟨h0, _⟩
   ·exact absurd h1.symm h0
   ·exact h0
  have hF := frt_of hf hd
  by_cases hz : m.1 < 0
  ·rw [if_pos hz] at hx
   exact .inr (.inl ⟨rfl, hx, vs, 0, hd, .inr (.inl ⟨rfl, .inl hz, rfl, rfl, rfl⟩)⟩)
  ·rw [if_neg hz] at hx
   by_cases h1 : x = 1000000001
   ·exact .inr (.inl ⟨rfl, h1, vs, 0, hd, .inr (.inl ⟨rfl, .inr (hx.symm.trans h1), rfl, rfl, rfl⟩)⟩)
   ·have hR := RgtM.of hf
    have hi := hR.hi
    have hne : el vs m.1.toNat ≠ 1000000001 := fun e => h1 (hx.trans e)
    obtain ⟨k, hk, hL⟩ := len_exists hF hR.rgt.to (fun q hq a ha => (hR.rgt.arc q hq a ha).1) (fun q hq => (hR.rgt.fin q hq).1) (show m.1.toNat < m.2.length by omega) hne
    exact .inr (.inr ⟨rfl, h1, hf, by omega, vs, hd, hx, hF, k, hk, hL, fun L hB => ⟨vs, 0, hd, .inr (.inr ⟨rfl, by omega, hne, hx, rfl, k, hL, hB⟩)⟩⟩)
set_option maxRecDepth 100000 in
set_option maxHeartbeats 6400000 in
theorem bestP_any (v : Value) (m : Mc) (w : World) (h : Mach w v m) (hok : okM m) :
  Calls Try.prog 10 #[v] w fun e w' => PthRes (BestAns m) w e w' := by
 obtain ⟨z, l⟩ := m
 have HM : Hid (Mach w v (z, l)) := h
 obtain ⟨vs, rfl, hS⟩ := h
 obtain ⟨a, cap, rfl⟩ := hS.sl
 generalize hl : l.length = N at *
 have HL := hidP hl
 have HK := hidP hok
 have HX : Hid (∀ W, Below w.heap.size w W → Mach W (.agg #[.int .i64 z, .slice a N cap]) (z, l)) := fun W hW => HM.out.later hW (Nat.le_refl _)
 have HLE : Hid (∀ W, Below w.heap.size w W → Calls Try.prog 22 #[.agg #[.int .i64 z, .slice a N cap]] W fun e w' => ∃ x ec : Int, e = .returned (.tuple #[.int .i64 x, .int .i64 ec]) ∧ LpaAns (z, l) x ec ∧ Below W.heap.size W w') := fun W hW => leastP_any _ (z, l) W (HX.out W hW) HK.out
 have HCS : Hid (∀ x ec, LpaAns (z, l) x ec → _) := fun x ec h => best_cases h
 clear hS hok hl
 go_enter Try.func10, Try.ntmps10
 go_wp2_with (first
  | (go_at_call 22; ((with_reducible refine (HLE.out _ (by go_grown)).mono ?_); rintro e w1 ⟨x, ec, rfl, hA, hb⟩; have X1 := hidP (((Blk.made w #[.int .i64 z, .slice a N cap] 24).alloc (.cells #[.int .i64 0, .slice none 0 0] 28)).below hb (by simp; omega)); have R1 := hidP ((Blk.made (w.alloc (.cells #[.int .i64 z, .slice a N cap] 24)) #[.int .i64 0, .slice none 0 0] 28).below hb (by simp)); have B1 := hidP ((((Below.refl w.heap.size w).alloc (Nat.le_refl _) (.cells #[.int .i64 z, .slice a N cap] 24)).alloc (by simp) (.cells #[.int .i64 0, .slice none 0 0] 28)).trans (hb.mono (by simp; omega))); rw [World.size_alloc] at R1; have c0 := R1.out.cell 0 (v := .int .i64 0) rfl; have c1 := R1.out.cell 1 (v := .slice none 0 0) rfl; have f0 := R1.out.fz 0; have f1 := R1.out.fz 1; have x0 := X1.out.cell 0 (v := .int .i64 z) rfl; have x1 := X1.out.cell 1 (v := .slice a N cap) rfl; have HC := hidP (HCS.out x ec hA); clear hA hb; rcases HC.out with ⟨he, hB⟩ | ⟨rfl, rfl, hB⟩ | ⟨rfl, hne, _⟩)))
 ·have RR := (R1.out.set 0 (.int .i64 0)).set 1 (.slice none 0 0)
  exact bodyPost_ret (res_best _ _ (w.heap.size + 1) ec (.int .i64 0) (.slice none 0 0) RR rfl rfl) rfl ⟨_, [], 0, ec, rfl, hB, nums_nil _, (B1.out.setCell (p := ⟨w.heap.size + 1, 0, none⟩) (Nat.le_succ _) _).setCell (p := ⟨w.heap.size + 1, 1, none⟩) (Nat.le_succ _) _⟩
 ·have RR := (R1.out.set 0 (.int .i64 0)).set 1 (.slice none 0 0)
  exact bodyPost_ret (res_best _ _ (w.heap.size + 1) 12 (.int .i64 0) (.slice none 0 0) RR rfl rfl) rfl ⟨_, [], 0, 12, rfl, hB, nums_nil _, (B1.out.setCell (p := ⟨w.heap.size + 1, 0, none⟩) (Nat.le_succ _) _).setCell (p := ⟨w.heap.size + 1, 1, none⟩) (Nat.le_succ _) _⟩
 ·rcases HC.out with ⟨he, _⟩ | ⟨_, he, _⟩ | ⟨_, _, hf, hz0, vs, hd, hxv, hF, k, hk, hLk, hB⟩
  ·exact absurd rfl he
  ·exact absurd he hne
  ·obtain ⟨s, rfl⟩ : ∃ s : Nat, z = (s : Int) := ⟨z.toNat, by have hz1 : 0 ≤ z := hz0; omega⟩
   simp only [Int.toNat_natCast] at hxv hLk hB
   have HRM := hidP (RgtM.of (m := ((s : Int), l)) hf)
   have hne2 : el vs s ≠ 1000000001 := by rw [← hxv]; exact hne
   have HFF := hidP hF
   have HBB := hidP hB
   have HKK := hidP (And.intro hLk (And.intro hk hne2))
   clear HC hf hz0 hd hF hk hLk hB hne2 hxv c0 c1 x0 x1
   have W1B : Hid (Below w.heap.size w w1.drew) := B1.out.drew
   have X1 := hidP X1.out.drew
   have R1 := hidP R1.out.drew
   have HTE := hidP (fun W (hW : Below w.heap.size w W) => toEnd_any (s : Int) (.slice a N cap) l W (HX.out W hW) HRM.out)
   rw [HL.out] at HTE
   have HS : HeldPm w.heap.size s (.slice a N cap) w1.drew := ⟨X1.out.cell 0 rfl, X1.out.cell 1 rfl⟩
   have HTE1 := hidP (HTE.out w1.drew W1B.out)
   refine region_anyL (HeldPm w.heap.size s (.slice a N cap)) 1000 (by kernel_rfl) ?_
   refine anyL_tk (i := 0) (v := ?v0_1) aZ0 (by kernel_rfl) ?y0_1 HS ?r0_1
   case y0_1 => intro wx hx; obtain ⟨h0, h1⟩ := hx; go_simp; try (with_reducible rfl)
   simp only [Act.put, List.setIfInBounds_toArray, List.set_cons_zero, List.set_cons_succ]
   refine anyL_tk (i := 1) (v := ?v1_2) aZ1 (by kernel_rfl) ?y1_2 HS ?r1_2
   case y1_2 => intro wx hx; obtain ⟨h0, h1⟩ := hx; go_simp; try (with_reducible rfl)
   simp only [Act.put, List.setIfInBounds_toArray, List.set_cons_zero, List.set_cons_succ]
   refine anyL_tk (i := 2) (v := ?v2_3) aZ2 (by kernel_rfl) ?y2_3 HS ?r2_3
   case y2_3 => intro wx hx; obtain ⟨h0, h1⟩ := hx; go_simp; try (with_reducible rfl)
   simp only [Act.put, List.setIfInBounds_toArray, List.set_cons_zero, List.set_cons_succ]
   refine anyL_one (i := 3) aZ3 (by kernel_rfl) rfl (fun K hK => ?_)
   go_simp
   with_reducible refine HTE1.out.mono ?_
   rintro e w2 ⟨T, ks, F, rfl, hKT, hkl, hkf, hCk, hTl, hb2⟩
   have X2 := hidP (X1.out.below hb2 X1.out.lt)
   have R2 := hidP (R1.out.below hb2 R1.out.lt)
   have B2 := hidP (W1B.out.trans (hb2.mono W1B.out.size))
   have HNB : Hid (∀ r : Option Nat, (∀ b, r = some b → w2.heap.size ≤ b) → r = none ∨ r ≠ some (w.heap.size + 1)) := fun r hr => by
    rcases r with _ | b
    ·exact .inl rfl
    ·right
     intro e9
     have h1 := hr b rfl
     have h2 := R2.out.lt
     simp at e9
     omega
   have HS2 : HeldPm w.heap.size s (.slice a N cap) w2 := ⟨X2.out.cell 0 rfl, X2.out.cell 1 rfl⟩
   have hAL := along_any s (.slice a N cap) l T ks vs k w2 (HX.out w2 B2.out) HRM.out hKT (by rw [hkl, HL.out]) HFF.out (fun q hq => by
    rw [hkf q (by rw [← HL.out]; exact hq)]
    exact left_found HRM.out.rgt (Nat.le_trans HRM.out.few (by decide)) (by rw [HL.out]; exact hCk) HFF.out hq) HKK.out.1 HKK.out.2.1 HKK.out.2.2
   rw [HL.out] at hAL
   have HAL := hidP hAL
   clear hKT hkl hkf hCk hTl hb2 hAL HTE HTE1
   refine hK _ _ (.inr HS2) ?_
   try simp only [Act.put, List.setIfInBounds_toArray, List.set_cons_zero, List.set_cons_succ]
   refine anyL_one (i := 4) aZ4 (by kernel_rfl) rfl (fun K hK => ?_)
   go_simp
   with_reducible refine HAL.out.mono ?_
   rintro e w3 ⟨v3, L, rfl, hNu, hBw, hb3⟩
   have X3 := hidP (X2.out.below hb3 X2.out.lt)
   have R3 := hidP (R2.out.below hb3 R2.out.lt)
   have B3 := hidP (B2.out.trans (hb3.mono B2.out.size))
   have HAN := hidP (HBB.out L hBw)
   have HS3 : HeldPm w.heap.size s (.slice a N cap) w3 := ⟨X3.out.cell 0 rfl, X3.out.cell 1 rfl⟩
   have c0 := R3.out.cell 0 (v := .int .i64 0) rfl
   have c1 := R3.out.cell 1 (v := .slice none 0 0) rfl
   have f0 := R3.out.fz 0
   have f1 := R3.out.fz 1
   obtain ⟨a3, cap3, hv3⟩ := own_slW hNu
   rw [List.length_map] at hv3 hNu
   subst hv3
   have NU := hidP hNu
   clear hNu hBw hb3
   refine hK _ _ (.inr HS3) ?_
   try simp only [Act.put, List.setIfInBounds_toArray, List.set_cons_zero, List.set_cons_succ]
   refine anyL_tk (i := 5) (v := ?v5_4) aZ5 (by kernel_rfl) ?y5_4 HS3 ?r5_4
   case y5_4 => intro wx hx; obtain ⟨h0, h1⟩ := hx; go_simp; try (with_reducible rfl)
   simp only [Act.put, List.setIfInBounds_toArray, List.set_cons_zero, List.set_cons_succ]
   have R4 := hidP ((R3.out.set 0 (.int .i64 x)).set 1 (.slice a3 L.length cap3))
   have B4 := hidP ((B3.out.setCell (p := ⟨w.heap.size + 1, 0, none⟩) (Nat.le_succ _) (.int .i64 x)).setCell (p := ⟨w.heap.size + 1, 1, none⟩) (Nat.le_succ _) (.slice a3 L.length cap3))
   have X4 := (X3.out.setO ⟨w.heap.size + 1, 0, none⟩ (.int .i64 x) (Nat.ne_of_lt (Nat.lt_succ_self _))).setO ⟨w.heap.size + 1, 1, none⟩ (.slice a3 L.length cap3) (Nat.ne_of_lt (Nat.lt_succ_self _))
   have HS4 : HeldPm w.heap.size s (.slice a N cap) ((w3.setCell ⟨w.heap.size + 1, 0, none⟩ (.int .i64 x)).setCell ⟨w.heap.size + 1, 1, none⟩ (.slice a3 L.length cap3)) := ⟨X4.cell 0 rfl, X4.cell 1 rfl⟩
   have NU4 : Hid (Nums ((w3.setCell ⟨w.heap.size + 1, 0, none⟩ (.int .i64 x)).setCell ⟨w.heap.size + 1, 1, none⟩ (.slice a3 L.length cap3)) (.slice a3 L.length cap3) (L.map fun i : Nat => (i : Int))) := by
    have k1 := NU.out.kept (gSet w3 (w.heap.size + 1) 0 (.int .i64 x)) (HNB.out _ (fun b hb => ((NU.out.lt b hb).1)))
    have k2 := k1.kept (gSet _ (w.heap.size + 1) 1 (.slice a3 L.length cap3)) (HNB.out _ (fun b hb => ((NU.out.lt b hb).1)))
    exact Row.ofOwn encI1_len k2 (by rw [List.length_map])
   generalize L.length = ln at *
   refine anyL_one (i := 6) aZ6 (by kernel_rfl) rfl (fun K hK => ?_)
   go_simp
   refine hK _ _ (.inr HS4) ?_
   try simp only [Act.put, List.setIfInBounds_toArray, List.set_cons_zero, List.set_cons_succ]
   refine anyL_one (i := 7) aZ7 (by kernel_rfl) rfl (fun K hK => ?_)
   go_simp
   refine hK _ _ (.inr HS4) (anyL_done (by kernel_rfl) (NoPanic.normal ?_))
   try simp only [Act.put, List.setIfInBounds_toArray, List.set_cons_zero, List.set_cons_succ]
   clear HS HS2 HS3 HS4 X4
   go_wp2
   exact bodyPost_ret (res_best _ _ (w.heap.size + 1) 0 (.int .i64 x) _ R4.out rfl rfl) rfl ⟨_, L, x, 0, rfl, HAN.out, NU4.out, B4.out⟩
end Go.Proofs.Ytobhjhjfannnnaa.Bw
namespace Go.Proofs.Ytobhjhjfannnnaa.Wt
open Go.ChangeShapes Go.WideShapes Go.ChangeAt Go.RowKit
open Go.Proofs.Ytobhjhjfannnnaa.Pl
set_option linter.unusedVariables false
set_option linter.unusedSimpArgs false
theorem infoIntX : (Try.prog.info? 3).map (fun i => (i.zero, i.size, i.bytes)) = some (some (.int .i64 0), 1, 8) := by kernel_rfl
def OwnI (w : World) (base : Nat) (v : Value) (l : List Int) : Prop := w.ownsRow base 3 1 v l.length (l.flatMap encI1)
theorem OwnI.nil (w : World) (base : Nat) : OwnI w base (.slice none 0 0) [] := World.ownsRow_nil _ _ _ _
theorem OwnI.nums {w : World} {base : Nat} {v : Value} {l : List Int} (h : OwnI w base v l) : Nums w v l := Row.ofOwn encI1_len h rfl
theorem OwnI.later {w w' : World} {base : Nat} {v : Value} {l : List Int} (h : OwnI w base v l) (hb : Below w.heap.size w w') : OwnI w' base v l := ownBelow h hb
theorem OwnI.pushG {W : World} {base : Nat} {v : Value} {l : List Int} (h : OwnI W base v l) (x : Int) (hl : l.length ≤ 100000) (hbase : base ≤ W.heap.size) :
  ∃ a k w', (Builtin.append_ #[26, 26] 26 #[v, .slice (some ⟨W.heap.size, 0, none⟩) 1 1]).run Try.prog (W.alloc (.cells #[.int .i64 x] 3)) = .ok (.slice a (l.length + 1) k) w' ∧ OwnI w' base (.slice a (l.length + 1) k) (l ++ [x]) ∧ Below base W w' ∧ (W.alloc (.cells #[.int .i64 x] 3)).grownBy w' v.ownBlock := by
 obtain ⟨i1, hi1, hy0, hy1, hy2⟩ := info_parts infoIntX
 have hB : Below W.heap.size W (W.alloc (.cells #[.int .i64 x] 3)) := (Below.refl _ _).alloc (Nat.le_refl _) _
 have hrow : Row 1 encI1 (W.alloc (.cells #[.int .i64 x] 3)) (.slice (some ⟨W.heap.size, 0, none⟩) 1 1) [x] := oneRow (enc := encI1) W x rfl 3
 obtain ⟨v4, w4, r4, h4, g4, _⟩ := run_append_spot (P := Try.prog) encI1_len (by decide) encI1_one 26 26 base 3 i1 _ 8 Try.underlying26 hi1 hy0 hy1 hy2 rfl _ l.length (l.flatMap encI1) (ownBelow h hB) _ [x] hrow (by simp; unfold maxLen; omega) (by simp; omega) (by simp; omega)
 obtain ⟨a, k, hv⟩ := own_sl h4
 subst hv
 refine ⟨a, k, w4, r4, by unfold OwnI; rw [List.length_append, List.flatMap_append]; exact h4, (hB.mono hbase).trans ((Below.refl _ _).grown g4 (by simp; omega) (fun k hk => (h.lt k hk).1)), g4⟩
theorem OwnI.push {W : World} {base : Nat} {v : Value} {l : List Int} (h : OwnI W base v l) (x : Int) (hl : l.length ≤ 100000) (hbase : base ≤ W.heap.size) :
  ∃ a k w', (Builtin.append_ #[26, 26] 26 #[v, .slice (some ⟨W.heap.size, 0, none⟩) 1 1]).run Try.prog (W.alloc (.cells #[.int .i64 x] 3)) = .ok (.slice a (l.length + 1) k) w' ∧ OwnI w' base (.slice a (l.length + 1) k) (l ++ [x]) ∧ Below base W w' := by
 obtain ⟨i1, hi1, hy0, hy1, hy2⟩ := info_parts infoIntX
 have hB : Below W.heap.size W (W.alloc (.cells #[.int .i64 x] 3)) := (Below.refl _ _).alloc (Nat.le_refl _) _
 have hrow : Row 1 encI1 (W.alloc (.cells #[.int .i64 x] 3)) (.slice (some ⟨W.heap.size, 0, none⟩) 1 1) [x] := oneRow (enc := encI1) W x rfl 3
 obtain ⟨v4, w4, r4, h4, g4, _⟩ := run_append_spot (P := Try.prog) encI1_len (by decide) encI1_one 26 26 base 3 i1 _ 8 Try.underlying26 hi1 hy0 hy1 hy2 rfl _ l.length (l.flatMap encI1) (ownBelow h hB) _ [x] hrow (by simp; unfold maxLen; omega) (by simp; omega) (by simp; omega)
 obtain ⟨a, k, hv⟩ := own_sl h4
 subst hv
 refine ⟨a, k, w4, r4, by unfold OwnI; rw [List.length_append, List.flatMap_append]; exact h4, (hB.mono hbase).trans ((Below.refl _ _).grown g4 (by simp; omega) (fun k hk => (h.lt k hk).1))⟩
set_option maxRecDepth 100000 in
set_option maxHeartbeats 3200000 in
theorem insertR_any (v : Value) (l : List Int) (x : Int) (n : Nat) (w : World) (h : Nums w v l) (hl : l.length ≤ 1000) (hn : n ≤ 1000) :
  Calls Try.prog 37 #[v, .int .i64 x, .int .i64 (n : Int)] w fun e w' => ∃ v', e = .returned v' ∧ Nums w' v' ((insS x l).take n) ∧ Below w.heap.size w w' := by
 obtain ⟨a, cap, rfl, hc⟩ := h.get
 have HC : Hid (∀ j, j < l.length → ∃ b off, a = some ⟨b, off, none⟩ ∧ b < w.heap.size ∧ w.cell? ⟨b, off + j, none⟩ = some (.int .i64 (el l j))) := hc
 clear h hc
 have HI0 : Hid (InsP x (l.take 0) [] false) := InsP.nil x
 generalize hL : l.length = L at *
 have HL := hidP hL
 clear hL
 go_enter Try.func37, Try.ntmps37
 go_wp2
 go_loopw [7, 8, 9] (fun s7 s8 s9 wr => ∃ (j : Nat) (ar : Option Addr) (c : Nat) (P : List Int) (d : Bool), s7 = .slice ar P.length c ∧ s8 = .bool d ∧ s9 = .int .i64 j ∧ j ≤ L ∧ Hid (InsP x (l.take j) P d) ∧ Hid (OwnI wr w.heap.size (.slice ar P.length c) P) ∧ Hid (Below w.heap.size w wr)) (fun _ _ s9 _ => L - (intOf s9).toNat)
 case atStart => exact ⟨0, none, 0, [], false, rfl, rfl, by go_num, Nat.zero_le _, HI0, OwnI.nil _ _, Below.refl _ _⟩
 case round =>
  clear HI0
  obtain ⟨j, ar, c, P, d, rfl, rfl, rfl, hj, hI, hO, hb⟩ := hrel
  have hPl : P.length ≤ 1001 := by
   have := hI.out.len
   rw [List.length_take] at this
   omega
  have hbs := hb.out.size
  by_cases hjL : j < L
  ·have hj1 : (j : Int) < (L : Int) := by omega
   have hj0 : (0 : Int) ≤ (j : Int) := by omega
   obtain ⟨b, off, rfl, hbl, e0⟩ := HC.out j hjL
   have HT : Hid (l.take (j + 1) = l.take j ++ [el l j]) := take_el (by rw [HL.out]; exact hjL)
   have c0 := (hb.out.cell (p := ⟨b, off + j, none⟩) hbl).trans e0
   generalize el l j = y at *
   cases d
   ·by_cases hxy : x < y
    ·have HI2 := hidP (hI.out.put hxy)
     obtain ⟨a1, k1, w4, r1, o1, b1⟩ := hO.out.push x (by omega) hbs
     have hb4 := hidP (hb.out.trans b1)
     have c1 := (hb4.out.cell (p := ⟨b, off + j, none⟩) hbl).trans e0
     obtain ⟨a2, k2, w5, r2, o2, b2⟩ := o1.push y (by simp; omega) hb4.out.size
     have hb5 := hidP (hb4.out.trans b2)
     rw [List.length_append] at r2 o2
     have R1 := hidP r1
     have R2 := hidP r2
     have O2 := hidP o2
     have HLE : Hid (((P ++ [x]) ++ [y]).length = P.length + 1 + 1) := by (show _ = _); simp
     clear r1 r2 o1 o2 b1 b2 e0
     go_wp2_with (first
      | (at_builtin; refine wpListAppendRun rfl _ _ 26 rfl rfl rfl R1.out ?_; clear R1)
      | (at_builtin; refine wpListAppendRun rfl _ _ 26 rfl rfl rfl R2.out ?_; clear R2))
     go_roundw
     case rel => exact ⟨j + 1, a2, k2, (P ++ [x]) ++ [y], true, by rw [HLE.out], rfl, by go_num, by omega, by rw [HT.out]; exact HI2.out, by rw [HLE.out]; exact O2.out, hb5⟩
     case measure => simp [intOf]; omega
    ·have HI2 := hidP (hI.out.skip hxy)
     obtain ⟨a1, k1, w4, r1, o1, b1⟩ := hO.out.push y (by omega) hbs
     have hb4 := hidP (hb.out.trans b1)
     have R1 := hidP r1
     have O1 := hidP o1
     have HLE : Hid ((P ++ [y]).length = P.length + 1) := by (show _ = _); simp
     clear r1 o1 b1 e0
     go_wp2_with (first
      | (at_builtin; refine wpListAppendRun rfl _ _ 26 rfl rfl rfl R1.out ?_; clear R1))
     go_roundw
     case rel => exact ⟨j + 1, a1, k1, P ++ [y], false, by rw [HLE.out], rfl, by go_num, by omega, by rw [HT.out]; exact HI2.out, by rw [HLE.out]; exact O1.out, hb4⟩
     case measure => simp [intOf]; omega
   ·have HI2 := hidP (hI.out.more y)
    obtain ⟨a1, k1, w4, r1, o1, b1⟩ := hO.out.push y (by omega) hbs
    have hb4 := hidP (hb.out.trans b1)
    have R1 := hidP r1
    have O1 := hidP o1
    have HLE : Hid ((P ++ [y]).length = P.length + 1) := by (show _ = _); simp
    clear r1 o1 b1 e0
    go_wp2_with (first
     | (at_builtin; refine wpListAppendRun rfl _ _ 26 rfl rfl rfl R1.out ?_; clear R1))
    go_roundw
    case rel => exact ⟨j + 1, a1, k1, P ++ [y], true, by rw [HLE.out], rfl, by go_num, by omega, by rw [HT.out]; exact HI2.out, by rw [HLE.out]; exact O1.out, hb4⟩
    case measure => simp [intOf]; omega
  ·have hj1 : ¬ (j : Int) < (L : Int) := by omega
   have HT : Hid (l.take j = l) := List.take_of_length_le (by rw [HL.out]; omega)
   rw [HT.out] at hI
   obtain ⟨a1, k1, w4, r1, o1, b1⟩ := hO.out.push x (by omega) hbs
   have hb4 := hidP (hb.out.trans b1)
   cases d
   ·have HE := hidP hI.out.endF
    rw [HE.out] at o1
    have hlen : (insS x l).length = P.length + 1 := by rw [← HE.out]; simp
    have R1 := hidP r1
    have O1 := hidP o1
    have HLN := hidP hlen
    clear r1 o1 b1
    by_cases hc : n < P.length + 1
    ·have hc1 : (n : Int) < ((P.length + 1 : Nat) : Int) := by omega
     have O1' : w4.ownsRow w.heap.size 3 1 (.slice a1 (P.length + 1) k1) (P.length + 1) ((insS x l).flatMap encI1) := by have h9 := O1.out; unfold OwnI at h9; rw [HLN.out] at h9; exact h9
     obtain ⟨g, rfl, hcap, hcut⟩ := own_cut O1' hc
     have HCUT := hidP hcut
     have hcap1 : (n : Int) ≤ (k1 : Int) := by omega
     have hn0 : (0 : Int) ≤ (n : Int) := by omega
     clear O1' hcut hlen
     go_wp2_with (first
      | (at_builtin; refine wpListAppendRun rfl _ _ 26 rfl rfl rfl R1.out ?_; clear R1))
     go_ret
     exact ⟨_, rfl, Row.ofOwn encI1_len HCUT.out (by rw [List.length_take, HLN.out]; omega), hb4.out⟩
    ·have hc1 : ¬ (n : Int) < ((P.length + 1 : Nat) : Int) := by omega
     have HTN : Hid ((insS x l).take n = insS x l) := List.take_of_length_le (by omega)
     have O1' : Hid (Nums w4 (.slice a1 (P.length + 1) k1) (insS x l)) := O1.out.nums
     clear hlen
     go_wp2_with (first
      | (at_builtin; refine wpListAppendRun rfl _ _ 26 rfl rfl rfl R1.out ?_; clear R1))
     go_ret
     exact ⟨_, rfl, by rw [HTN.out]; exact O1'.out, hb4.out⟩
   ·have HE := hidP hI.out.endT
    clear r1 o1 b1 hb4
    by_cases hc : n < P.length
    ·have hc1 : (n : Int) < (P.length : Int) := by omega
     obtain ⟨g, rfl, hcap, hcut⟩ := own_cut hO.out hc
     have HCUT := hidP hcut
     have hcap1 : (n : Int) ≤ (c : Int) := by omega
     have hn0 : (0 : Int) ≤ (n : Int) := by omega
     clear hcut
     go_wp2
     go_ret
     exact ⟨_, rfl, Row.ofOwn encI1_len (by rw [← HE.out]; exact HCUT.out) (by rw [List.length_take, ← HE.out]; omega), hb.out⟩
    ·have hc1 : ¬ (n : Int) < (P.length : Int) := by omega
     have HTN : Hid ((insS x l).take n = P) := by (show _ = _); rw [← HE.out]; exact List.take_of_length_le (by omega)
     go_wp2
     go_ret
     exact ⟨_, rfl, by rw [HTN.out]; exact hO.out.nums, hb.out⟩
end Go.Proofs.Ytobhjhjfannnnaa.Wt
