/- The program: how far it is from the start, and to an end. -/
import Derived.Test.YtfpibdaedfilaaaGaj
import Derived.Test.YtfpibdaedfilaaaGak
import Derived.Test.YtfpibdaedfilaaaGal
import Derived.Test.YtfpibdaedfilaaaGad
import Derived.Test.YtfpibdaedfilaaaGae
import Derived.Test.YtfpibdaedfilaaaGah
import Derived.Test.YtfpibdaedfilaaaGaa
import Derived.Test.YtfpibdaedfilaaaGab
import Derived.WalkKit
import Derived.ProofKit
import Derived.OpenShut
import Derived.Below
import Derived.SizedLaws
import Derived.Laws.AppendOwnNone
import Derived.BigQuiet
import Derived.Deep.QuietTactic
import Derived.Test.YtfpibdaedfilaaaGai
import Derived.Laws.MakeOwn
namespace Go.Proofs.Ytfpibdaedfilaaa.Wt
open Go.ChangeShapes Go.WideShapes Go.ChangeAt Go.RowKit
open Go.Proofs.Ytfpibdaedfilaaa.Pl
set_option linter.unusedVariables false
set_option linter.unusedSimpArgs false
def HeldDp (B : Nat) (z : Int) (v : Value) (w : World) : Prop := Blk w B #[.int .i64 z, v] 27
theorem HeldDp.two {B : Nat} {z : Int} {v : Value} {w : World} (h : HeldDp B z v w) : w.cell? ⟨B, 0, none⟩ = some (.int .i64 z) ∧ w.cell? ⟨B, 1, none⟩ = some v := ⟨h.cell 0 rfl, h.cell 1 rfl⟩
theorem tab_rows {w : World} {base g n : Nat} {rows : List Value} {F : List Ar} {f : Nat → List Ar} (h : Dw.WayTab w base g n rows f) : ∀ q, q < n → w.cell? ⟨g, q, none⟩ = some (el rows q) ∧ Row 2 Dw.encD w (el rows q) (stpW F f n q) := fun q hq => by
 rw [stpW_at hq]
 exact ⟨h.cell hq, Row.ofOwn Dw.encD_len (h.row q hq) rfl⟩
theorem nums_cells {w : World} {v : Value} {xs : List Int} (h : Nums w v xs) : ∃ a cap, v = .slice a xs.length cap ∧ ∀ j, j < xs.length → ∃ b off, a = some ⟨b, off, none⟩ ∧ w.cell? ⟨b, off + j, none⟩ = some (.int .i64 (el xs j)) := by
 by_cases hz : 0 < xs.length
 ·obtain ⟨b, off, cap, hv, hb, hc⟩ := Row.plain h (fun x => by rw [encI1_len]; omega) hz
  refine ⟨_, cap, hv, fun j hj => ⟨b, off, rfl, ?_⟩⟩
  have h9 := hc j hj 0 _ rfl
  rw [Nat.mul_one, Nat.add_zero] at h9
  exact h9
 ·obtain ⟨a, cap, hv⟩ := Row.sl h
  exact ⟨a, cap, hv, fun j hj => absurd hj (by omega)⟩
set_option maxRecDepth 100000 in
set_option maxHeartbeats 1600000 in
theorem endsP_ok (v : Value) (m : Mc) (w : World) (h : Mach w v m) (hok : okM m) (hr : faultM m = 0) :
  Calls Try.prog 22 #[v] w fun e w' => LstRes (LstAns (EndC m.2) m.2.length) w e w' := by
 obtain ⟨z, l⟩ := m
 obtain ⟨vs, rfl, hS⟩ := h
 obtain ⟨a, cap, rfl⟩ := hS.sl
 have HM : Hid (Mach w (.agg #[.int .i64 z, .slice a l.length cap]) (z, l)) := ⟨_, rfl, hS⟩
 have HK : Hid (okM (z, l)) := hok
 have HR : Hid (faultM (z, l) = 0) := hr
 have HZ : Hid (-1 ≤ z) := (right_parts hr).1.1
 have H60 : Hid (l.length ≤ 60) := (right_size hr).1
 have HSR := hidP (stpE_right (m := (z, l)) hr)
 have HPR := hidP (end_rch (m := (z, l)) hr)
 clear hS hok hr
 simp only at HSR HPR ⊢
 generalize hn : l.length = n at *
 have HN : Hid (l.length = n) := hn
 clear hn
 go_enter Try.func22, Try.ntmps22
 go_wp2_with (first
  | (go_at_call 30; (with_reducible refine (coreCheck_any _ (z, l) _ (HM.out.later (B := w.heap.size) (by go_grown) (Nat.le_refl _)) HK.out 0 HR.out).mono ?_); rintro e w1 ⟨rfl, hb⟩; obtain ⟨s1, b1, hb1⟩ := boxed hb (by simp); have K0 : HeldDp w.heap.size z (.slice a n cap) w1 := b1; have HB1 : Hid (Below w.heap.size w w1) := hb1; clear b1 hb1 hb))
 have K1 : HeldDp w.heap.size z (.slice a n cap) w1.drew := K0.drew
 refine region_anyL (HeldDp w.heap.size z (.slice a n cap)) 1000 (by kernel_rfl) ?_
 refine anyL_tk (i := 0) (v := ?v0_1) aZ0 (by kernel_rfl) ?y0_1 K1 ?r0_1
 case y0_1 => intro wx hx; obtain ⟨x0, x1⟩ := hx.two; go_simp; try (with_reducible rfl)
 simp only [Act.put, List.setIfInBounds_toArray, List.set_cons_zero, List.set_cons_succ]
 refine anyL_tk (i := 2) (v := ?v2_2) aZ2 (by kernel_rfl) ?y2_2 K1 ?r2_2
 case y2_2 => intro wx hx; obtain ⟨x0, x1⟩ := hx.two; go_simp; try (with_reducible rfl)
 simp only [Act.put, List.setIfInBounds_toArray, List.set_cons_zero, List.set_cons_succ]
 refine anyL_one (i := 1) aZ1 (by kernel_rfl) rfl (fun K hK => ?_)
 go_simp
 refine (Dw.ends_any z _ l _ (HM.out.later HB1.out.drew (Nat.le_refl _)) HR.out).mono ?_
 rintro e w2 ⟨v2, rfl, ho2, hb2⟩
 rw [HN.out] at ho2
 have K2 : HeldDp w.heap.size z (.slice a n cap) w2 := K1.below hb2 s1
 have HB2 : Hid (Below w.heap.size w w2) := HB1.out.trans ((Dw.below_undrewD hb2).mono HB1.out.size)
 have HO2 : Hid (Row 2 Dw.encD w2 v2 (endW l n)) := ho2
 have s2 : w1.heap.size ≤ w2.heap.size := hb2.size
 refine hK _ _ (.inr K2) ?_
 try simp only [Act.put, List.setIfInBounds_toArray, List.set_cons_zero, List.set_cons_succ]
 clear hb2 ho2 K0 K1
 refine anyL_one (i := 3) aZ3 (by kernel_rfl) rfl (fun K hK => ?_)
 go_simp
 refine (Dw.backward_any z _ l _ (HM.out.later HB2.out (Nat.le_refl _)) HR.out).mono ?_
 rintro e w3 ⟨rfl, ⟨rows, t3⟩, hb3⟩
 rw [HN.out] at t3
 have K3 : HeldDp w.heap.size z (.slice a n cap) w3 := K2.below hb3 (by omega)
 have HB3 : Hid (Below w.heap.size w w3) := HB2.out.trans (hb3.mono HB2.out.size)
 have HO3 : Hid (Row 2 Dw.encD w3 v2 (stpW (endW l n) (filS bkK l n) n n)) := by have h9 := HO2.out.later hb3 (Nat.le_refl _); show Row _ _ _ _ _; rw [stpW_src]; exact h9
 have HLA : Hid (Calls Try.prog 46 #[v2, .slice (some ⟨w2.heap.size + 1, 0, none⟩) n n] w3 fun e w' => LstRes (LstAns (EndC l) n) w3 e w') := Dw.least_any n (w2.heap.size + 1) v2 rows w3 H60.out HSR.out HPR.out HO3.out t3.blk.lt (tab_rows t3)
 refine hK _ _ (.inr K3) ?_
 try simp only [Act.put, List.setIfInBounds_toArray, List.set_cons_zero, List.set_cons_succ, HN.out]
 clear t3 K2
 refine anyL_one (i := 4) aZ4 (by kernel_rfl) rfl (fun K hK => ?_)
 go_simp
 refine HLA.out.mono ?_
 rintro e w4 ⟨v4, vs4, ec4, rfl, hA4, hN4, hb4⟩
 have K4 : HeldDp w.heap.size z (.slice a n cap) w4 := K3.below hb4 (by have := hb3.size; omega)
 have HB4 : Hid (Below w.heap.size w w4) := HB3.out.trans (hb4.mono HB3.out.size)
 have HA4 := hidP hA4
 have HN4 := hidP hN4
 refine hK _ _ (.inr K4) ?_
 try simp only [Act.put, List.setIfInBounds_toArray, List.set_cons_zero, List.set_cons_succ]
 clear hA4 hN4 hb4 hb3 K3
 refine anyL_tk (i := 5) (v := ?v5_3) aZ5 (by kernel_rfl) ?y5_3 K4 ?r5_3
 case y5_3 => intro wx hx; obtain ⟨x0, x1⟩ := hx.two; go_simp; try (with_reducible rfl)
 simp only [Act.put, List.setIfInBounds_toArray, List.set_cons_zero, List.set_cons_succ]
 refine anyL_tk (i := 6) (v := ?v6_4) aZ6 (by kernel_rfl) ?y6_4 K4 ?r6_4
 case y6_4 => intro wx hx; obtain ⟨x0, x1⟩ := hx.two; go_simp; try (with_reducible rfl)
 simp only [Act.put, List.setIfInBounds_toArray, List.set_cons_zero, List.set_cons_succ]
 refine anyL_one (i := 7) aZ7 (by kernel_rfl) rfl (fun K hK => ?_)
 go_simp
 refine hK _ _ (.inr K4) ?_
 try simp only [Act.put, List.setIfInBounds_toArray, List.set_cons_zero, List.set_cons_succ]
 refine anyL_one (i := 8) aZ8 (by kernel_rfl) rfl (fun K hK => ?_)
 go_simp
 refine hK _ _ (.inr K4) (anyL_done (by kernel_rfl) (NoPanic.normal ?_))
 try simp only [Act.put, List.setIfInBounds_toArray, List.set_cons_zero, List.set_cons_succ]
 clear K4
 go_wp2
 exact bodyPost_ret (v := .tuple #[v4, .int .i64 ec4]) (by simp [results, Try.results22, go_sem]) rfl ⟨_, vs4, ec4, rfl, HA4.out, HN4.out, HB4.out⟩
set_option maxRecDepth 100000 in
theorem endsP_bad (v : Value) (m : Mc) (w : World) (h : Mach w v m) (hok : okM m) (r : Int) (hr : faultM m = r) (h0 : ¬ r = 0) :
  Calls Try.prog 22 #[v] w fun e w' => e = .returned (.tuple #[.slice none 0 0, .int .i64 r]) ∧ Below w.heap.size w w' := by
 obtain ⟨z, l⟩ := m
 obtain ⟨vs, rfl, hS⟩ := h
 obtain ⟨a, cap, rfl⟩ := hS.sl
 have HM : Hid (Mach w (.agg #[.int .i64 z, .slice a l.length cap]) (z, l)) := ⟨_, rfl, hS⟩
 have HK : Hid (okM (z, l)) := hok
 have HR : Hid (faultM (z, l) = r) := hr
 clear hS hok hr
 simp only
 have hne : (r != 0) = true := by simpa using h0
 generalize l.length = n at *
 go_enter Try.func22, Try.ntmps22
 go_wp2_with (first
  | (go_at_call 30; (with_reducible refine (coreCheck_any _ (z, l) _ (HM.out.later (B := w.heap.size) (by go_grown) (Nat.le_refl _)) HK.out r HR.out).mono ?_); rintro e w1 ⟨rfl, hb⟩; obtain ⟨s1, b1, hb1⟩ := boxed hb (by simp); have HB1 : Hid (Below w.heap.size w w1) := hb1; clear b1 hb1 hb))
 go_ret2
 exact ⟨rfl, HB1.out⟩
theorem endsP_any (v : Value) (m : Mc) (w : World) (h : Mach w v m) (hok : okM m) :
  Calls Try.prog 22 #[v] w fun e w' => LstRes (DstAns m (EndC m.2)) w e w' := by
 by_cases hr : faultM m = 0
 ·refine (endsP_ok v m w h hok hr).mono ?_
  rintro e w' ⟨vr, vs, ec, rfl, h1, h2, h3⟩
  exact ⟨vr, vs, ec, rfl, .inr ⟨hr, h1⟩, h2, h3⟩
 ·refine (endsP_bad v m w h hok _ rfl hr).mono ?_
  rintro e w' ⟨rfl, h3⟩
  exact ⟨_, [], _, rfl, .inl ⟨hr, rfl, rfl⟩, .inl ⟨rfl, rfl⟩, h3⟩
theorem least_cases {z : Int} {l : List St} {vs : List Int} {ec : Int} {w : World} {v : Value} (hA : DstAns (z, l) (EndC l) vs ec) (hN : Nums w v vs) :
  (ec ≠ 0 ∧ (ec != 0) = true) ∨ (ec = 0 ∧ z = -1) ∨ (ec = 0 ∧ ∃ q : Nat, z = (q : Int) ∧ ((q : Int) == -1) = false ∧ ∃ b off cap, v = .slice (some ⟨b, off, none⟩) vs.length cap ∧ w.cell? ⟨b, off + q, none⟩ = some (.int .i64 (el vs q)) ∧ (q : Int) < ((vs.length : Nat) : Int)) := by
 by_cases he : ec = 0
 ·subst he
  by_cases hz : z = -1
  ·exact .inr (.inl ⟨rfl, hz⟩)
  ·have hln := hA.len
   simp only at hln
   obtain ⟨a1, cap1, hv, hcl⟩ := nums_cells hN
   obtain ⟨b2, off2, ha2, hcq⟩ := hcl z.toNat (by omega)
   subst ha2
   exact .inr (.inr ⟨rfl, z.toNat, by omega, by simp; omega, b2, off2, cap1, hv, hcq, by omega⟩)
 ·exact .inl ⟨he, by simpa using he⟩
set_option maxRecDepth 100000 in
set_option maxHeartbeats 1600000 in
theorem leastP_any (v : Value) (m : Mc) (w : World) (h : Mach w v m) (hok : okM m) :
  Calls Try.prog 12 #[v] w fun e w' => ∃ x ec : Int, e = .returned (.tuple #[.int .i64 x, .int .i64 ec]) ∧ LpaAns m x ec ∧ Below w.heap.size w w' := by
 obtain ⟨z, l⟩ := m
 obtain ⟨vs, rfl, hS⟩ := h
 obtain ⟨a, cap, rfl⟩ := hS.sl
 have HM : Hid (Mach w (.agg #[.int .i64 z, .slice a l.length cap]) (z, l)) := ⟨_, rfl, hS⟩
 have HK : Hid (okM (z, l)) := hok
 clear hS hok
 simp only
 generalize hn : l.length = n at *
 have HN : Hid (l.length = n) := hn
 clear hn
 have HCL : Hid (∀ W, Below w.heap.size w W → Calls Try.prog 22 #[.agg #[.int .i64 z, .slice a n cap]] W fun e w' => LstRes (DstAns (z, l) (EndC l)) W e w') := fun W hW => endsP_any _ (z, l) W (HM.out.later hW (Nat.le_refl _)) HK.out
 go_enter Try.func12, Try.ntmps12
 go_wp2_with (first
  | (go_at_call 22; ((with_reducible refine (HCL.out _ (by go_grown)).mono ?_); rintro e w1 ⟨v1, vs1, ec1, rfl, hA1, hN1, hb⟩; obtain ⟨s1, b1, hb1⟩ := boxed hb (by simp); have c0 := b1.cell 0 (v := .int .i64 z) rfl; have HB1 := hidP hb1; have HA1 := hidP hA1; have HN1 := hidP hN1; clear b1 hb1 hb hA1 hN1; rcases least_cases HA1.out HN1.out with ⟨he, heb⟩ | ⟨rfl, rfl⟩ | ⟨rfl, q, rfl, hzb, b2, off2, cap1, rfl, hcq, hqn⟩)))
 all_goals first
  | (go_ret2; exact ⟨_, _, rfl, ⟨vs1, ec1, HA1.out, .inl ⟨he, rfl, rfl⟩⟩, HB1.out⟩)
  | (go_ret2; exact ⟨_, _, rfl, ⟨vs1, 0, HA1.out, .inr ⟨rfl, rfl, by rw [if_pos (by show (-1 : Int) < 0; decide)]⟩⟩, HB1.out⟩)
  | (go_ret2; exact ⟨_, _, rfl, ⟨vs1, 0, HA1.out, .inr ⟨rfl, rfl, by rw [if_neg (by show ¬ (q : Int) < 0; omega)]; simp only [Int.toNat_natCast]⟩⟩, HB1.out⟩)
end Go.Proofs.Ytfpibdaedfilaaa.Wt
namespace Go.Proofs.Ytfpibdaedfilaaa.Pl
set_option linter.unusedVariables false
set_option linter.unusedSimpArgs false
theorem right_okM {m : Mc} (h : faultM m = 0) : okM m := by
 have h1 := right_size (z := m.1) (l := m.2) h
 exact small_ok (by omega) (by omega)
def S (f : Nat → Nat) : Nat → Nat
 | 0 => 0
 | n + 1 => S f n + f n
inductive Stc (a : Mc) : List Int → List Int → Nat → Prop
 | nil : Stc a [] [] 0
 | snoc {x y x' y' : List Int} {c d : Nat} (h : Stc a x y c) (k : Costs a x' y' d) : Stc a (x ++ x') (y ++ y') (c + d)
def CstIs (P : Nat → Prop) (n : Int) : Prop := (n = 1000000001 ∧ ∀ c, ¬ P c) ∨ ∃ c : Nat, LeastP P c ∧ c ≤ 100000000 ∧ n = (c : Int)
theorem cst_of {P : Nat → Prop} {n e : Int} (h : WghAns P n e) (hb : ∀ c, P c → ∃ d, d ≤ 100000000 ∧ P d) : e = 0 ∧ CstIs P n := by
 rcases h with ⟨h, rfl, rfl⟩ | ⟨c, hc, h⟩
 ·exact ⟨rfl, .inl ⟨rfl, h⟩⟩
 ·obtain ⟨d, hd, hp⟩ := hb c hc.1
  have := hc.2 d hp
  rcases h with ⟨h1, rfl, rfl⟩ | ⟨h1, rfl, rfl⟩
  ·exact ⟨rfl, .inr ⟨c, hc, by omega, rfl⟩⟩
  ·omega
def CheapL (l : List St) : Prop := ∀ s ∈ l, (s.1 ≠ 1000000001 → s.1 ≤ 8000) ∧ ∀ a ∈ s.2, a.2.2.1 ≤ 8000
end Go.Proofs.Ytfpibdaedfilaaa.Pl
namespace Go.Proofs.Ytfpibdaedfilaaa.Wt
open Go.ChangeShapes Go.WideShapes Go.ChangeAt Go.RowKit
open Go.Proofs.Ytfpibdaedfilaaa.Pl
set_option linter.unusedVariables false
set_option linter.unusedSimpArgs false
theorem right_ok {m : Mc} (h : faultM m = 0) : okM m := by
 have h1 := right_size (z := m.1) (l := m.2) h
 exact small_ok (by omega) (by omega)
end Go.Proofs.Ytfpibdaedfilaaa.Wt
namespace Go.Proofs.Ytfpibdaedfilaaa.Pl
set_option linter.unusedVariables false
set_option linter.unusedSimpArgs false
theorem arcE_cheap {m : Mc} (hc : CheapL m.2) {k w j : Nat} (e : ArcE m.2 k w j) : w ≤ 8000 := by
 have hk := arcE_in e
 obtain ⟨a, ha, _, rfl⟩ := e
 have := (hc _ (el_mem hk)).2 a ha
 omega
theorem run_cheap {m : Mc} (hr : faultM m = 0) (hc : CheapL m.2) {s n q c : Nat} (hs : s < m.2.length) (h : Run (ArcE m.2) s n q c) : ∃ n' d, d ≤ 480000 ∧ d ≤ c ∧ Run (ArcE m.2) s n' q d := by
 have h60 := (right_size (z := m.1) (l := m.2) hr).1
 obtain ⟨n', d, hn, hd, h'⟩ := h.cheap hs (fun k w j e => (arcE_small hr e).1)
 have h1 := h'.cost (W := 8000) (fun k w j e => arcE_cheap hc e)
 have h2 : n' * 8000 ≤ 60 * 8000 := Nat.mul_le_mul_right _ (by omega)
 exact ⟨n', d, by omega, hd, h'⟩
theorem end_bound {m : Mc} (hr : faultM m = 0) (hc : CheapL m.2) {q c : Nat} (hq : q < m.2.length) (h : EndC m.2 q c) : ∃ d, d ≤ 100000000 ∧ EndC m.2 q d := by
 obtain ⟨n, p, d, h, hp, hf, rfl⟩ := h
 obtain ⟨n', d', hd, _, h'⟩ := run_cheap hr hc hq h
 have := (hc _ (el_mem hp)).1 hf
 exact ⟨d' + (el m.2 p).1.toNat, by omega, n', p, d', h', hp, hf, rfl⟩
theorem dst_cst {m : Mc} {P : Nat → Nat → Prop} {vs : List Int} {ec : Int} (hr : faultM m = 0) (hb : ∀ q, q < m.2.length → ∀ c, P q c → ∃ d, d ≤ 100000000 ∧ P q d) (h : DstAns m P vs ec) : ec = 0 ∧ vs.length = m.2.length ∧ ∀ q, q < m.2.length → CstIs (P q) (el vs q) := by
 rcases h with ⟨h, _⟩ | ⟨_, ⟨h1, h2, h3⟩ | ⟨_, _, q, hq, h4⟩⟩
 ·exact absurd hr h
 ·exact ⟨h1, h2, fun q hq => (cst_of (h3 q hq) (hb q hq)).2⟩
 ·exact absurd (cst_of h4 (hb q hq)).1 (by decide)
theorem end_cst {m : Mc} {vs : List Int} {ec : Int} (hr : faultM m = 0) (hc : CheapL m.2) (h : DstAns m (EndC m.2) vs ec) : ec = 0 ∧ vs.length = m.2.length ∧ ∀ q, q < m.2.length → CstIs (EndC m.2 q) (el vs q) := dst_cst hr (fun q hq c => end_bound hr hc hq) h
theorem lpa_cst {m : Mc} {x ec : Int} (hr : faultM m = 0) (hc : CheapL m.2) (hz : 0 ≤ m.1) (h : LpaAns m x ec) : ec = 0 ∧ CstIs (EndC m.2 m.1.toNat) x := by
 obtain ⟨vs, f, h1, h2⟩ := h
 obtain ⟨rfl, h3, h4⟩ := end_cst hr hc h1
 rcases h2 with ⟨h2, _⟩ | ⟨_, h5, h6⟩
 ·exact absurd rfl h2
 ·rw [if_neg (by omega)] at h6
  rw [h6]
  exact ⟨h5, h4 _ (by have := (right_parts hr).1; omega)⟩
end Go.Proofs.Ytfpibdaedfilaaa.Pl
namespace Go.Proofs.Ytfpibdaedfilaaa.Wt
open Go.ChangeShapes Go.WideShapes Go.ChangeAt Go.RowKit
open Go.Proofs.Ytfpibdaedfilaaa.Pl
set_option linter.unusedVariables false
set_option linter.unusedSimpArgs false
theorem least_cst (v : Value) (m : Mc) (w : World) (h : Mach w v m) (hr : faultM m = 0) (hc : CheapL m.2) (hz : 0 ≤ m.1) : Calls Try.prog 12 #[v] w fun e w' => ∃ x : Int, e = .returned (.tuple #[.int .i64 x, .int .i64 0]) ∧ CstIs (EndC m.2 m.1.toNat) x ∧ Below w.heap.size w w' := by
 refine (leastP_any v m w h (right_ok hr)).mono ?_
 rintro e w' ⟨x, ec, rfl, hq, hb⟩
 obtain ⟨rfl, h1⟩ := lpa_cst hr hc hz hq
 exact ⟨x, rfl, h1, hb⟩
end Go.Proofs.Ytfpibdaedfilaaa.Wt
namespace Go.Proofs.Ytfpibdaedfilaaa.Pl
set_option linter.unusedVariables false
set_option linter.unusedSimpArgs false
def pshA (vs : List Int) (q : Nat) (a : Ar) : Ar := (a.1, a.2.1, a.2.2.1 + el vs a.2.2.2.toNat - el vs q, a.2.2.2)
def pshF (vs : List Int) (q : Nat) (f : Int) : Int := if f = 1000000001 then 1000000001 else f - el vs q
def pshS (vs : List Int) (l : List St) (q : Nat) : St := (pshF vs q (el l q).1, (el l q).2.map (pshA vs q))
def pshL (vs : List Int) (l : List St) : List St := (List.range l.length).map (pshS vs l)
def pshM (vs : List Int) (m : Mc) : Mc := (m.1, pshL vs m.2)
def pshT (vs : List Int) (m : Mc) : Int := if m.1 < 0 then 0 else el vs m.1.toNat
def pshO (vs : List Int) (l : List St) : Bool := (List.range l.length).any fun q => (el l q).2.any fun a => decide (1000000000 < (pshA vs q a).2.2.1)
theorem psh_length (vs : List Int) (l : List St) : (pshL vs l).length = l.length := by simp [pshL]
theorem psh_el {vs : List Int} {l : List St} {q : Nat} (h : q < l.length) : el (pshL vs l) q = pshS vs l q := el_range_map _ h
def trmM (m : Mc) (aa bs : List Bool) : Mc := trimM m.1 m.2 (keptL aa bs m.2.length)
def PshAns (m x : Mc) (tot ec : Int) : Prop :=
 (faultM m ≠ 0 ∧ x = (0, []) ∧ tot = 0 ∧ ec = faultM m) ∨
 (faultM m = 0 ∧ ∃ aa bs vs e, Least (AheadC m.1 m.2) m.2.length aa ∧ Least (BackC m.2) m.2.length bs ∧ DstAns (trmM m aa bs) (EndC (trmM m aa bs).2) vs e ∧
  ((e ≠ 0 ∧ x = (0, []) ∧ tot = 0 ∧ ec = e) ∨ (e = 0 ∧ pshO vs (trmM m aa bs).2 = true ∧ x = (0, []) ∧ tot = 0 ∧ ec = 4) ∨
   (e = 0 ∧ pshO vs (trmM m aa bs).2 = false ∧ x = pshM vs (trmM m aa bs) ∧ tot = pshT vs (trmM m aa bs) ∧ ec = 0)))
structure Pot (l : List St) (vs : List Int) : Prop where
 len : vs.length = l.length
 nn : ∀ q, q < l.length → 0 ≤ el vs q ∧ el vs q ≤ 1000000000
 arc : ∀ q, q < l.length → ∀ a ∈ (el l q).2, ∃ t : Nat, a.2.2.2 = (t : Int) ∧ t < l.length ∧ 0 ≤ a.2.2.1 ∧ el vs q ≤ a.2.2.1 + el vs t
 fin : ∀ q, q < l.length → (el l q).1 ≠ 1000000001 → el vs q ≤ (el l q).1 ∧ (el l q).1 ≤ 1000000000
end Go.Proofs.Ytfpibdaedfilaaa.Pl
namespace Go.Proofs.Ytfpibdaedfilaaa.Wt
open Go.ChangeShapes Go.WideShapes Go.ChangeAt Go.RowKit
open Go.Proofs.Ytfpibdaedfilaaa.Pl
set_option linter.unusedVariables false
def PshRes (Q : Mc → Int → Int → Prop) (w : World) (e : Ending) (w' : World) : Prop := ∃ v x, ∃ t ec : Int, e = .returned (.tuple #[v, .int .i64 t, .int .i64 ec]) ∧ Q x t ec ∧ Mach w' v x ∧ Below w.heap.size w w'
end Go.Proofs.Ytfpibdaedfilaaa.Wt
namespace Go.Proofs.Ytfpibdaedfilaaa.Wt
open Go.ChangeShapes Go.WideShapes Go.ChangeAt Go.RowKit
open Go.Proofs.Ytfpibdaedfilaaa.Pl
set_option linter.unusedVariables false
set_option linter.unusedSimpArgs false
theorem grown_of_below {w w' : World} (hb : Below w.heap.size w w') : w.grownBy w' none := ⟨hb.os, hb.tape, hb.output, hb.size, fun k hk _ => hb.block k hk⟩
theorem own_below {w w' : World} {base : Nat} {e : TypeId} {s : Nat} {v : Value} {n : Nat} {xs : List Value} (h : w.ownsRow base e s v n xs) (hb : Below w.heap.size w w') : w'.ownsRow base e s v n xs :=
 h.kept (grown_of_below hb) (by rcases v.ownBlock with _ | _ <;> simp)
theorem own_mono {w : World} {base base' : Nat} {e : TypeId} {s : Nat} {v : Value} {n : Nat} {xs : List Value} (h : w.ownsRow base e s v n xs) (hb : base' ≤ base) : w.ownsRow base' e s v n xs := by
 refine ⟨h.1, ?_⟩
 rcases h.2 with h2 | ⟨g, cap, cur, hv, hg, h3⟩
 ·exact .inl h2
 ·exact .inr ⟨g, cap, cur, hv, Nat.le_trans hb hg, h3⟩
def Agree (B : Nat) (w w' : World) : Prop := ∀ k, B ≤ k → k < w.heap.size → w'.heap[k]? = w.heap[k]?
theorem agree_set {B : Nat} {w : World} {a : Addr} (ha : a.block < B) (u : Value) : Agree B w (w.setCell a u) := fun k hk _ => Below.heap_setCell w a u k (by omega)
theorem Agree.trans {B : Nat} {w w' w'' : World} (h : Agree B w w') (hs : w.heap.size ≤ w'.heap.size) (k : Agree B w' w'') : Agree B w w'' := fun i hi hl => (k i hi (Nat.lt_of_lt_of_le hl hs)).trans (h i hi hl)
theorem Agree.mono {B B' : Nat} {w w' : World} (h : Agree B w w') (hB : B ≤ B') : Agree B' w w' := fun k hk hl => h k (Nat.le_trans hB hk) hl
theorem agree_below {B : Nat} {w w' : World} (hb : Below w.heap.size w w') : Agree B w w' := fun k _ hl => hb.block k hl
theorem own_agree {w w' : World} {base : Nat} {e : TypeId} {s : Nat} {v : Value} {n : Nat} {xs : List Value} (h : w.ownsRow base e s v n xs) (hg : Agree base w w') : w'.ownsRow base e s v n xs := by
 refine ⟨h.1, ?_⟩
 rcases h.2 with h2 | ⟨g, cap, cur, hv, hb, hh, h3⟩
 ·exact .inl h2
 ·exact .inr ⟨g, cap, cur, hv, hb, (hg g hb (lt_of_block hh)).trans hh, h3⟩
theorem blk_agree {w w' : World} {base b : Nat} {cs : Array Value} {t : TypeId} (h : Blk w b cs t) (hb : base ≤ b) (hg : Agree base w w') : Blk w' b cs t := (hg b hb h.lt).trans h
theorem made_states (n : Nat) : madeCells (Value.cells (.agg #[.int .i64 0, .slice none 0 0])) (n * 2) = ((List.replicate n ((0 : Int), Value.slice none 0 0)).flatMap encS).toArray := by
 apply Array.ext_getElem?
 intro t
 have hz : Value.cells (.agg #[.int .i64 0, .slice none 0 0]) = #[.int .i64 0, .slice none 0 0] := rfl
 by_cases ht : t < n * 2
 ·have h2 := flat_at encS_len (List.replicate n ((0 : Int), Value.slice none 0 0)) (t / 2) (by simp; omega) (t % 2) (by omega)
  have he : t / 2 * 2 + t % 2 = t := by omega
  rw [he] at h2
  simp only [List.getElem?_toArray]
  rw [h2, el_get (by simp; omega), List.getElem_replicate]
  simp only [madeCells, hz, Array.getElem?_map]
  rw [Array.getElem?_eq_getElem (by simpa using ht)]
  have h01 : t % 2 = 0 ∨ t % 2 = 1 := by omega
  rcases h01 with h | h <;> simp [h, encS]
 ·rw [Array.getElem?_eq_none (by simp [size_madeCells]; omega), List.getElem?_toArray, List.getElem?_eq_none (by rw [flat_length encS_len]; simp; omega)]
theorem set_state {vs : List (Int × Value)} {k : Nat} (hk : k < vs.length) (p : Int × Value) : ((vs.flatMap encS).toArray.setIfInBounds (k * 2) (.int .i64 p.1)).setIfInBounds (k * 2 + 1) p.2 = ((vs.set k p).flatMap encS).toArray := by
 apply Array.ext_getElem?
 intro t
 have hl : (vs.flatMap encS).length = vs.length * 2 := flat_length encS_len vs
 by_cases ht : t < vs.length * 2
 ·have he : t / 2 * 2 + t % 2 = t := by omega
  have h1 := flat_at encS_len vs (t / 2) (by omega) (t % 2) (by omega)
  have h2 := flat_at encS_len (vs.set k p) (t / 2) (by simp; omega) (t % 2) (by omega)
  rw [he] at h1 h2
  rw [Array.getElem?_setIfInBounds, Array.getElem?_setIfInBounds]
  simp only [List.getElem?_toArray]
  rw [h1, h2]
  simp only [Array.size_setIfInBounds, List.size_toArray, hl]
  by_cases hq : t / 2 = k
  ·have hel : el (vs.set k p) (t / 2) = p := by rw [hq, el_get (by simpa using hk)]; simp
   rw [hel]
   have h01 : t = k * 2 ∨ t = k * 2 + 1 := by omega
   rcases h01 with h | h
   ·have e0 : t % 2 = 0 := by omega
    rw [if_neg (by omega), if_pos h.symm, if_pos (by omega), e0]; rfl
   ·have e0 : t % 2 = 1 := by omega
    rw [if_pos h.symm, if_pos (by omega), e0]; rfl
  ·have hel : el (vs.set k p) (t / 2) = el vs (t / 2) := by simp [el, List.getElem?_set_ne (Ne.symm hq)]
   rw [hel, if_neg (by omega), if_neg (by omega)]
 ·rw [Array.getElem?_eq_none (by simp only [Array.size_setIfInBounds, List.size_toArray, hl]; omega), List.getElem?_toArray, List.getElem?_eq_none (by rw [flat_length encS_len]; simp; omega)]
theorem el_setS {α : Type} [Inhabited α] {l : List α} {k j : Nat} (hk : k < l.length) (x : α) : el (l.set k x) j = if j = k then x else el l j := by
 by_cases h : j = k
 ·subst h; rw [if_pos rfl, el_get (by simpa using hk)]; simp
 ·rw [if_neg h]; simp [el, List.getElem?_set_ne (Ne.symm h)]
theorem sts_block {w : World} {bs B : Nat} {vs : List (Int × Value)} {l : List St} (hb : Blk w bs (vs.flatMap encS).toArray 56) (hl : vs.length = l.length) (h : ∀ j, j < l.length → (el vs j).1 = (el l j).1 ∧ w.ownsRow B 58 4 (el vs j).2 (el l j).2.length ((el l j).2.flatMap encA)) :
  Sts w (.slice (some ⟨bs, 0, none⟩) l.length l.length) l := by
 refine ⟨vs, .inr ⟨⟨bs, 0, none⟩, l.length, by rw [hl], fun j hj i u hu => ?_⟩, hl, fun j hj => ⟨(h j hj).1, Row.ofOwn encA_len (h j hj).2 rfl⟩⟩
 have hi : i < 2 := by
  rcases Nat.lt_or_ge i 2 with h | h
  ·exact h
  ·rw [List.getElem?_eq_none (by rw [encS_len]; exact h)] at hu; simp at hu
 rw [Addr.add_lit, Nat.zero_add]
 refine hb.cell _ ?_
 rw [List.getElem?_toArray, flat_at encS_len vs j hj i hi]
 exact hu
theorem made_arcs (n : Nat) : madeCells (Value.cells (.agg #[.int .i64 0, .int .i64 0, .int .i64 0, .int .i64 0])) (n * 4) = ((List.replicate n ((0, 0, 0, 0) : Ar)).flatMap encA).toArray := by
 apply Array.ext_getElem?
 intro t
 have hz : Value.cells (.agg #[.int .i64 0, .int .i64 0, .int .i64 0, .int .i64 0]) = #[.int .i64 0, .int .i64 0, .int .i64 0, .int .i64 0] := rfl
 by_cases ht : t < n * 4
 ·have h2 := flat_at encA_len (List.replicate n ((0, 0, 0, 0) : Ar)) (t / 4) (by simp; omega) (t % 4) (by omega)
  have he : t / 4 * 4 + t % 4 = t := by omega
  rw [he] at h2
  simp only [List.getElem?_toArray]
  rw [h2, el_get (by simp; omega), List.getElem_replicate]
  simp only [madeCells, hz, Array.getElem?_map]
  rw [Array.getElem?_eq_getElem (by simpa using ht)]
  have h01 : t % 4 = 0 ∨ t % 4 = 1 ∨ t % 4 = 2 ∨ t % 4 = 3 := by omega
  rcases h01 with h | h | h | h <;> simp [h, encA]
 ·rw [Array.getElem?_eq_none (by simp [size_madeCells]; omega), List.getElem?_toArray, List.getElem?_eq_none (by rw [flat_length encA_len]; simp; omega)]
theorem set_arc {xs : List Ar} {k : Nat} (hk : k < xs.length) (p : Ar) : ((((xs.flatMap encA).toArray.setIfInBounds (k * 4) (.int .i64 p.1)).setIfInBounds (k * 4 + 1) (.int .i64 p.2.1)).setIfInBounds (k * 4 + 2) (.int .i64 p.2.2.1)).setIfInBounds (k * 4 + 3) (.int .i64 p.2.2.2) = ((xs.set k p).flatMap encA).toArray := by
 apply Array.ext_getElem?
 intro t
 have hl : (xs.flatMap encA).length = xs.length * 4 := flat_length encA_len xs
 by_cases ht : t < xs.length * 4
 ·have he : t / 4 * 4 + t % 4 = t := by omega
  have h1 := flat_at encA_len xs (t / 4) (by omega) (t % 4) (by omega)
  have h2 := flat_at encA_len (xs.set k p) (t / 4) (by simp; omega) (t % 4) (by omega)
  rw [he] at h1 h2
  rw [Array.getElem?_setIfInBounds, Array.getElem?_setIfInBounds, Array.getElem?_setIfInBounds, Array.getElem?_setIfInBounds]
  simp only [List.getElem?_toArray]
  rw [h1, h2]
  simp only [Array.size_setIfInBounds, List.size_toArray, hl]
  by_cases hq : t / 4 = k
  ·have hel : el (xs.set k p) (t / 4) = p := by rw [hq, el_get (by simpa using hk)]; simp
   rw [hel]
   have h01 : t = k * 4 ∨ t = k * 4 + 1 ∨ t = k * 4 + 2 ∨ t = k * 4 + 3 := by omega
   rcases h01 with h | h | h | h
   ·have e0 : t % 4 = 0 := by omega
    rw [if_neg (by omega), if_neg (by omega), if_neg (by omega), if_pos h.symm, if_pos (by omega), e0]; rfl
   ·have e0 : t % 4 = 1 := by omega
    rw [if_neg (by omega), if_neg (by omega), if_pos h.symm, if_pos (by omega), e0]; rfl
   ·have e0 : t % 4 = 2 := by omega
    rw [if_neg (by omega), if_pos h.symm, if_pos (by omega), e0]; rfl
   ·have e0 : t % 4 = 3 := by omega
    rw [if_pos h.symm, if_pos (by omega), e0]; rfl
  ·have hel : el (xs.set k p) (t / 4) = el xs (t / 4) := by simp [el, List.getElem?_set_ne (Ne.symm hq)]
   rw [hel, if_neg (by omega), if_neg (by omega), if_neg (by omega), if_neg (by omega)]
 ·rw [Array.getElem?_eq_none (by simp only [Array.size_setIfInBounds, List.size_toArray, hl]; omega), List.getElem?_toArray, List.getElem?_eq_none (by rw [flat_length encA_len]; simp; omega)]
theorem run_arcs (n : Nat) (hn : n ≤ 1000) (W : World) : (Instr.makeSlice 54 (.int .i64 (n : Int)) (.int .i64 (n : Int))).run Try.prog W = .ok (.slice (some ⟨W.heap.size, 0, none⟩) n n) (W.alloc (.cells ((List.replicate n ((0, 0, 0, 0) : Ar)).flatMap encA).toArray 58)) := by
 obtain ⟨i1, hi1, hy0, hy1, hy2⟩ := info_parts infoArc
 have h := run_make (P := Try.prog) W 54 58 i1 _ Try.underlying54 hi1 hy0 .i64 .i64 n n (by omega) (by omega) (by rw [hy2]; omega) (by omega)
 rw [hy1, Int.toNat_natCast, made_arcs] at h
 exact h
theorem run_states (n : Nat) (hn : n ≤ 1000) (W : World) : (Instr.makeSlice 25 (.int .i64 (n : Int)) (.int .i64 (n : Int))).run Try.prog W = .ok (.slice (some ⟨W.heap.size, 0, none⟩) n n) (W.alloc (.cells ((List.replicate n ((0 : Int), Value.slice none 0 0)).flatMap encS).toArray 56)) := by
 obtain ⟨i1, hi1, hy0, hy1, hy2⟩ := info_parts infoState
 have h := run_make (P := Try.prog) W 25 56 i1 _ Try.underlying25 hi1 hy0 .i64 .i64 n n (by omega) (by omega) (by rw [hy2]; omega) (by omega)
 rw [hy1, Int.toNat_natCast, made_states] at h
 exact h
theorem arcs_block {w : World} {g B : Nat} {xs : List Ar} (h : Blk w g (xs.flatMap encA).toArray 58) (hB : B ≤ g) (hl : xs.length ≤ 1000) : w.ownsRow B 58 4 (.slice (some ⟨g, 0, none⟩) xs.length xs.length) xs.length (xs.flatMap encA) :=
 ⟨flat_length encA_len xs, .inr ⟨g, xs.length, _, rfl, hB, h, Nat.le_refl _, by unfold maxLen; omega, by simp [flat_length encA_len], by rw [List.take_of_length_le]; rw [Array.length_toList, List.size_toArray, flat_length encA_len]; exact Nat.le_refl _⟩⟩
end Go.Proofs.Ytfpibdaedfilaaa.Wt
