/- The program: how far it is from the start, and to an end. -/
import Derived.Test.YtfpibdaedfilaaaEal
import Derived.Test.YtfpibdaedfilaaaEam
import Derived.Test.YtfpibdaedfilaaaEan
import Derived.WalkKit
import Derived.ProofKit
import Derived.OpenShut
import Derived.Below
import Derived.SizedLaws
import Derived.Laws.AppendOwnNone
import Derived.BigQuiet
import Derived.Deep.QuietTactic
import Derived.Test.YtfpibdaedfilaaaEab
import Derived.Test.YtfpibdaedfilaaaEae
import Derived.Test.YtfpibdaedfilaaaEag
import Derived.Test.YtfpibdaedfilaaaEai
import Derived.RegionTactic
import Derived.BigRegion
import Derived.Deep.MidRow
namespace Go.Proofs.Ytfpibdaedfilaaa.Wt
open Go.ChangeShapes Go.WideShapes Go.ChangeAt Go.RowKit
open Go.Proofs.Ytfpibdaedfilaaa.Pl
set_option linter.unusedVariables false
set_option linter.unusedSimpArgs false
def HeldDp (B : Nat) (z : Int) (v : Value) (w : World) : Prop := Blk w B #[.int .i64 z, v] 27
theorem HeldDp.two {B : Nat} {z : Int} {v : Value} {w : World} (h : HeldDp B z v w) : w.cell? ⟨B, 0, none⟩ = some (.int .i64 z) ∧ w.cell? ⟨B, 1, none⟩ = some v := ⟨h.cell 0 rfl, h.cell 1 rfl⟩
theorem tab_rows {w : World} {base g n : Nat} {rows : List Value} {F : List Ar} {f : Nat → List Ar} (h : Dw.WayTab w base g n rows f) : ∀ q, q < n → w.cell? ⟨g, q, none⟩ = some (el rows q) ∧ Row 2 Dw.encD w (el rows q) (stpW F f n q) := fun q hq => by
 rw [stpW_at hq]
 exact ⟨h.cell hq, Row.ofOwn Dw.encD_len (h.row q hq) rfl⟩
theorem nums_cells {w : World} {v : Value} {xs : List Int} (h : Nums w v xs) : ∃ a cap, v = .slice a xs.length cap ∧ ∀ j, j < xs.length → ∃ b off, a = some ⟨b, off, none⟩ ∧ w.cell? ⟨b, off + j, none⟩ = some (.int .i64 (el xs j)) := by
 by_cases hz : 0 < xs.length
 ·obtain ⟨b, off, cap, hv, hb, hc⟩ := Row.plain h (fun x => by rw [encI1_len]; omega) hz
  refine ⟨_, cap, hv, fun j hj => ⟨b, off, rfl, ?_⟩⟩
  have h9 := hc j hj 0 _ rfl
  rw [Nat.mul_one, Nat.add_zero] at h9
  exact h9
 ·obtain ⟨a, cap, hv⟩ := Row.sl h
  exact ⟨a, cap, hv, fun j hj => absurd hj (by omega)⟩
set_option maxRecDepth 100000 in
set_option maxHeartbeats 1600000 in
theorem endsP_ok (v : Value) (m : Mc) (w : World) (h : Mach w v m) (hok : okM m) (hr : faultM m = 0) :
  Calls Try.prog 22 #[v] w fun e w' => LstRes (LstAns (EndC m.2) m.2.length) w e w' := by
 obtain ⟨z, l⟩ := m
 obtain ⟨vs, rfl, hS⟩ := h
 obtain ⟨a, cap, rfl⟩ := hS.sl
 have HM : Hid (Mach w (.agg #[.int .i64 z, .slice a l.length cap]) (z, l)) := ⟨_, rfl, hS⟩
 have HK : Hid (okM (z, l)) := hok
 have HR : Hid (faultM (z, l) = 0) := hr
 have HZ : Hid (-1 ≤ z) := (right_parts hr).1.1
 have H60 : Hid (l.length ≤ 60) := (right_size hr).1
 have HSR := hidP (stpE_right (m := (z, l)) hr)
 have HPR := hidP (end_rch (m := (z, l)) hr)
 clear hS hok hr
 simp only at HSR HPR ⊢
 generalize hn : l.length = n at *
 have HN : Hid (l.length = n) := hn
 clear hn
 go_enter Try.func22, Try.ntmps22
 go_wp2_with (first
  | (go_at_call 30; (with_reducible refine (coreCheck_any _ (z, l) _ (HM.out.later (B := w.heap.size) (by go_grown) (Nat.le_refl _)) HK.out 0 HR.out).mono ?_); rintro e w1 ⟨rfl, hb⟩; obtain ⟨s1, b1, hb1⟩ := boxed hb (by simp); have K0 : HeldDp w.heap.size z (.slice a n cap) w1 := b1; have HB1 : Hid (Below w.heap.size w w1) := hb1; clear b1 hb1 hb))
 have K1 : HeldDp w.heap.size z (.slice a n cap) w1.drew := K0.drew
 refine region_anyL (HeldDp w.heap.size z (.slice a n cap)) 1000 (by kernel_rfl) ?_
 refine anyL_tk (i := 0) (v := ?v0_1) aZ0 (by kernel_rfl) ?y0_1 K1 ?r0_1
 case y0_1 => intro wx hx; obtain ⟨x0, x1⟩ := hx.two; go_simp; try (with_reducible rfl)
 simp only [Act.put, List.setIfInBounds_toArray, List.set_cons_zero, List.set_cons_succ]
 refine anyL_tk (i := 2) (v := ?v2_2) aZ2 (by kernel_rfl) ?y2_2 K1 ?r2_2
 case y2_2 => intro wx hx; obtain ⟨x0, x1⟩ := hx.two; go_simp; try (with_reducible rfl)
 simp only [Act.put, List.setIfInBounds_toArray, List.set_cons_zero, List.set_cons_succ]
 refine anyL_one (i := 1) aZ1 (by kernel_rfl) rfl (fun K hK => ?_)
 go_simp
 refine (Dw.ends_any z _ l _ (HM.out.later HB1.out.drew (Nat.le_refl _)) HR.out).mono ?_
 rintro e w2 ⟨v2, rfl, ho2, hb2⟩
 rw [HN.out] at ho2
 have K2 : HeldDp w.heap.size z (.slice a n cap) w2 := K1.below hb2 s1
 have HB2 : Hid (Below w.heap.size w w2) := HB1.out.trans ((Dw.below_undrewD hb2).mono HB1.out.size)
 have HO2 : Hid (Row 2 Dw.encD w2 v2 (endW l n)) := ho2
 have s2 : w1.heap.size ≤ w2.heap.size := hb2.size
 refine hK _ _ (.inr K2) ?_
 try simp only [Act.put, List.setIfInBounds_toArray, List.set_cons_zero, List.set_cons_succ]
 clear hb2 ho2 K0 K1
 refine anyL_one (i := 3) aZ3 (by kernel_rfl) rfl (fun K hK => ?_)
 go_simp
 refine (Dw.backward_any z _ l _ (HM.out.later HB2.out (Nat.le_refl _)) HR.out).mono ?_
 rintro e w3 ⟨rfl, ⟨rows, t3⟩, hb3⟩
 rw [HN.out] at t3
 have K3 : HeldDp w.heap.size z (.slice a n cap) w3 := K2.below hb3 (by omega)
 have HB3 : Hid (Below w.heap.size w w3) := HB2.out.trans (hb3.mono HB2.out.size)
 have HO3 : Hid (Row 2 Dw.encD w3 v2 (stpW (endW l n) (filS bkK l n) n n)) := by have h9 := HO2.out.later hb3 (Nat.le_refl _); show Row _ _ _ _ _; rw [stpW_src]; exact h9
 have HLA : Hid (Calls Try.prog 46 #[v2, .slice (some ⟨w2.heap.size + 1, 0, none⟩) n n] w3 fun e w' => LstRes (LstAns (EndC l) n) w3 e w') := Dw.least_any n (w2.heap.size + 1) v2 rows w3 H60.out HSR.out HPR.out HO3.out t3.blk.lt (tab_rows t3)
 refine hK _ _ (.inr K3) ?_
 try simp only [Act.put, List.setIfInBounds_toArray, List.set_cons_zero, List.set_cons_succ, HN.out]
 clear t3 K2
 refine anyL_one (i := 4) aZ4 (by kernel_rfl) rfl (fun K hK => ?_)
 go_simp
 refine HLA.out.mono ?_
 rintro e w4 ⟨v4, vs4, ec4, rfl, hA4, hN4, hb4⟩
 have K4 : HeldDp w.heap.size z (.slice a n cap) w4 := K3.below hb4 (by have := hb3.size; omega)
 have HB4 : Hid (Below w.heap.size w w4) := HB3.out.trans (hb4.mono HB3.out.size)
 have HA4 := hidP hA4
 have HN4 := hidP hN4
 refine hK _ _ (.inr K4) ?_
 try simp only [Act.put, List.setIfInBounds_toArray, List.set_cons_zero, List.set_cons_succ]
 clear hA4 hN4 hb4 hb3 K3
 refine anyL_tk (i := 5) (v := ?v5_3) aZ5 (by kernel_rfl) ?y5_3 K4 ?r5_3
 case y5_3 => intro wx hx; obtain ⟨x0, x1⟩ := hx.two; go_simp; try (with_reducible rfl)
 simp only [Act.put, List.setIfInBounds_toArray, List.set_cons_zero, List.set_cons_succ]
 refine anyL_tk (i := 6) (v := ?v6_4) aZ6 (by kernel_rfl) ?y6_4 K4 ?r6_4
 case y6_4 => intro wx hx; obtain ⟨x0, x1⟩ := hx.two; go_simp; try (with_reducible rfl)
 simp only [Act.put, List.setIfInBounds_toArray, List.set_cons_zero, List.set_cons_succ]
 refine anyL_one (i := 7) aZ7 (by kernel_rfl) rfl (fun K hK => ?_)
 go_simp
 refine hK _ _ (.inr K4) ?_
 try simp only [Act.put, List.setIfInBounds_toArray, List.set_cons_zero, List.set_cons_succ]
 refine anyL_one (i := 8) aZ8 (by kernel_rfl) rfl (fun K hK => ?_)
 go_simp
 refine hK _ _ (.inr K4) (anyL_done (by kernel_rfl) (NoPanic.normal ?_))
 try simp only [Act.put, List.setIfInBounds_toArray, List.set_cons_zero, List.set_cons_succ]
 clear K4
 go_wp2
 exact bodyPost_ret (v := .tuple #[v4, .int .i64 ec4]) (by simp [results, Try.results22, go_sem]) rfl ⟨_, vs4, ec4, rfl, HA4.out, HN4.out, HB4.out⟩
set_option maxRecDepth 100000 in
theorem endsP_bad (v : Value) (m : Mc) (w : World) (h : Mach w v m) (hok : okM m) (r : Int) (hr : faultM m = r) (h0 : ¬ r = 0) :
  Calls Try.prog 22 #[v] w fun e w' => e = .returned (.tuple #[.slice none 0 0, .int .i64 r]) ∧ Below w.heap.size w w' := by
 obtain ⟨z, l⟩ := m
 obtain ⟨vs, rfl, hS⟩ := h
 obtain ⟨a, cap, rfl⟩ := hS.sl
 have HM : Hid (Mach w (.agg #[.int .i64 z, .slice a l.length cap]) (z, l)) := ⟨_, rfl, hS⟩
 have HK : Hid (okM (z, l)) := hok
 have HR : Hid (faultM (z, l) = r) := hr
 clear hS hok hr
 simp only
 have hne : (r != 0) = true := by simpa using h0
 generalize l.length = n at *
 go_enter Try.func22, Try.ntmps22
 go_wp2_with (first
  | (go_at_call 30; (with_reducible refine (coreCheck_any _ (z, l) _ (HM.out.later (B := w.heap.size) (by go_grown) (Nat.le_refl _)) HK.out r HR.out).mono ?_); rintro e w1 ⟨rfl, hb⟩; obtain ⟨s1, b1, hb1⟩ := boxed hb (by simp); have HB1 : Hid (Below w.heap.size w w1) := hb1; clear b1 hb1 hb))
 go_ret2
 exact ⟨rfl, HB1.out⟩
theorem endsP_any (v : Value) (m : Mc) (w : World) (h : Mach w v m) (hok : okM m) :
  Calls Try.prog 22 #[v] w fun e w' => LstRes (DstAns m (EndC m.2)) w e w' := by
 by_cases hr : faultM m = 0
 ·refine (endsP_ok v m w h hok hr).mono ?_
  rintro e w' ⟨vr, vs, ec, rfl, h1, h2, h3⟩
  exact ⟨vr, vs, ec, rfl, .inr ⟨hr, h1⟩, h2, h3⟩
 ·refine (endsP_bad v m w h hok _ rfl hr).mono ?_
  rintro e w' ⟨rfl, h3⟩
  exact ⟨_, [], _, rfl, .inl ⟨hr, rfl, rfl⟩, .inl ⟨rfl, rfl⟩, h3⟩
theorem least_cases {z : Int} {l : List St} {vs : List Int} {ec : Int} {w : World} {v : Value} (hA : DstAns (z, l) (EndC l) vs ec) (hN : Nums w v vs) :
  (ec ≠ 0 ∧ (ec != 0) = true) ∨ (ec = 0 ∧ z = -1) ∨ (ec = 0 ∧ ∃ q : Nat, z = (q : Int) ∧ ((q : Int) == -1) = false ∧ ∃ b off cap, v = .slice (some ⟨b, off, none⟩) vs.length cap ∧ w.cell? ⟨b, off + q, none⟩ = some (.int .i64 (el vs q)) ∧ (q : Int) < ((vs.length : Nat) : Int)) := by
 by_cases he : ec = 0
 ·subst he
  by_cases hz : z = -1
  ·exact .inr (.inl ⟨rfl, hz⟩)
  ·have hln := hA.len
   simp only at hln
   obtain ⟨a1, cap1, hv, hcl⟩ := nums_cells hN
   obtain ⟨b2, off2, ha2, hcq⟩ := hcl z.toNat (by omega)
   subst ha2
   exact .inr (.inr ⟨rfl, z.toNat, by omega, by simp; omega, b2, off2, cap1, hv, hcq, by omega⟩)
 ·exact .inl ⟨he, by simpa using he⟩
set_option maxRecDepth 100000 in
set_option maxHeartbeats 1600000 in
theorem leastP_any (v : Value) (m : Mc) (w : World) (h : Mach w v m) (hok : okM m) :
  Calls Try.prog 12 #[v] w fun e w' => ∃ x ec : Int, e = .returned (.tuple #[.int .i64 x, .int .i64 ec]) ∧ LpaAns m x ec ∧ Below w.heap.size w w' := by
 obtain ⟨z, l⟩ := m
 obtain ⟨vs, rfl, hS⟩ := h
 obtain ⟨a, cap, rfl⟩ := hS.sl
 have HM : Hid (Mach w (.agg #[.int .i64 z, .slice a l.length cap]) (z, l)) := ⟨_, rfl, hS⟩
 have HK : Hid (okM (z, l)) := hok
 clear hS hok
 simp only
 generalize hn : l.length = n at *
 have HN : Hid (l.length = n) := hn
 clear hn
 have HCL : Hid (∀ W, Below w.heap.size w W → Calls Try.prog 22 #[.agg #[.int .i64 z, .slice a n cap]] W fun e w' => LstRes (DstAns (z, l) (EndC l)) W e w') := fun W hW => endsP_any _ (z, l) W (HM.out.later hW (Nat.le_refl _)) HK.out
 go_enter Try.func12, Try.ntmps12
 go_wp2_with (first
  | (go_at_call 22; ((with_reducible refine (HCL.out _ (by go_grown)).mono ?_); rintro e w1 ⟨v1, vs1, ec1, rfl, hA1, hN1, hb⟩; obtain ⟨s1, b1, hb1⟩ := boxed hb (by simp); have c0 := b1.cell 0 (v := .int .i64 z) rfl; have HB1 := hidP hb1; have HA1 := hidP hA1; have HN1 := hidP hN1; clear b1 hb1 hb hA1 hN1; rcases least_cases HA1.out HN1.out with ⟨he, heb⟩ | ⟨rfl, rfl⟩ | ⟨rfl, q, rfl, hzb, b2, off2, cap1, rfl, hcq, hqn⟩)))
 all_goals first
  | (go_ret2; exact ⟨_, _, rfl, ⟨vs1, ec1, HA1.out, .inl ⟨he, rfl, rfl⟩⟩, HB1.out⟩)
  | (go_ret2; exact ⟨_, _, rfl, ⟨vs1, 0, HA1.out, .inr ⟨rfl, rfl, by rw [if_pos (by show (-1 : Int) < 0; decide)]⟩⟩, HB1.out⟩)
  | (go_ret2; exact ⟨_, _, rfl, ⟨vs1, 0, HA1.out, .inr ⟨rfl, rfl, by rw [if_neg (by show ¬ (q : Int) < 0; omega)]; simp only [Int.toNat_natCast]⟩⟩, HB1.out⟩)
end Go.Proofs.Ytfpibdaedfilaaa.Wt
namespace Go.Proofs.Ytfpibdaedfilaaa.Wt
open Go.ChangeShapes Go.WideShapes Go.ChangeAt Go.RowKit
open Go.Proofs.Ytfpibdaedfilaaa.Pl
set_option linter.unusedVariables false
def IsRow (k : IntKind) (w : World) (a : Option Addr) (len cap : Nat) (zs : List Int) : Prop :=
 (a = none ∧ len = 0 ∧ cap = 0 ∧ zs = []) ∨
 ∃ x, a = some x ∧ len ≤ cap ∧ cap ≤ maxLen ∧ zs.length = cap ∧ (∀ i, i < zs.length → w.cell? (x.add i) = some (.int k (zs.getD i 0))) ∧ ∀ n ∈ zs, (Lit.int k n).wf = true
end Go.Proofs.Ytfpibdaedfilaaa.Wt
namespace Go.Proofs.Ytfpibdaedfilaaa.Wt
open Go.ChangeShapes Go.WideShapes Go.ChangeAt Go.RowKit
open Go.Proofs.Ytfpibdaedfilaaa.Pl
set_option linter.unusedVariables false
set_option linter.unusedSimpArgs false
theorem row_nums {w : World} {a : Option Addr} {len cap : Nat} {zs : List Int} (h : IsRow .i64 w a len cap zs) : Nums w (.slice a len cap) (zs.take len) ∧ (zs.take len).length = len ∧ len ≤ cap := by
  rcases h with ⟨rfl, rfl, rfl, rfl⟩ | ⟨x, rfl, h1, h2, h3, h4, h5⟩
  · exact ⟨.inl ⟨rfl, rfl⟩, rfl, Nat.le_refl _⟩
  · have hl : (zs.take len).length = len := by rw [List.length_take]; omega
    refine ⟨.inr ⟨x, cap, by rw [hl], fun j hj i u hu => ?_⟩, hl, h1⟩
    match i, hu with
    | 0, hu =>
      simp [encI1] at hu
      subst hu
      rw [hl] at hj
      rw [Nat.mul_one, Nat.add_zero, h4 j (by omega)]
      have h6 : j < zs.length := by omega
      simp [el, List.getElem?_take, hj, h6, List.getD_eq_getElem?_getD]
    | i + 1, hu => simp [encI1] at hu
theorem right_ok {m : Mc} (h : faultM m = 0) : okM m := by
 have h1 := right_size (z := m.1) (l := m.2) h
 exact small_ok (by omega) (by omega)
theorem row_wf {w : World} {a : Option Addr} {len cap : Nat} {zs : List Int} (h : IsRow .i64 w a len cap zs) : ∀ n ∈ zs.take len, (Lit.int .i64 n).wf = true := by
 rcases h with ⟨rfl, rfl, rfl, rfl⟩ | ⟨x, rfl, h1, h2, h3, h4, h5⟩
 ·intro n hn; simp at hn
 ·intro n hn
  exact h5 n (List.mem_of_mem_take hn)
theorem arcN_four : ∀ l : List St, (∀ s ∈ l, s.2.length ≤ 4) → arcN l ≤ 4 * l.length
  | [], _ => by simp [arcN]
  | s :: l, h => by
    have h0 := h s (by simp)
    have := arcN_four l (fun t ht => h t (by simp [ht]))
    simp only [arcN, List.length_cons]
    omega
theorem made_facts (r : Int × List (Int × Bool × List Ar)) (k : Nat) (h0 : 0 < k) (h8 : k ≤ 8) : faultM (madeM r k false) = 0 ∧ CheapL (madeM r k false).2 ∧ (madeM r k false).2.length ≤ k ∧ arcN (madeM r k false).2 ≤ 4 * k ∧ 0 < (madeM r k false).2.length := by
 have hlen : (madeM r k false).2.length = sizeM r k := statesM_length _ _ _
 have hn : 0 < sizeM r k ∧ sizeM r k ≤ k := by unfold sizeM; omega
 refine ⟨madeM_right r k h0 h8 false, made_cheap r k false, by omega, ?_, by omega⟩
 have := arcN_four (madeM r k false).2 (fun s hs => by
  simp only [madeM, statesM, List.mem_map] at hs
  obtain ⟨q, _, rfl⟩ := hs
  split
  ·simp
  ·exact stM_few _ _ _)
 omega
theorem start_lt {m : Mc} (h : faultM m = 0) : m.1 < (m.2.length : Int) := by
 have := (right_parts h).1.2
 omega
theorem least_cst (v : Value) (m : Mc) (w : World) (h : Mach w v m) (hr : faultM m = 0) (hc : CheapL m.2) (hz : 0 ≤ m.1) : Calls Try.prog 12 #[v] w fun e w' => ∃ x : Int, e = .returned (.tuple #[.int .i64 x, .int .i64 0]) ∧ CstIs (EndC m.2 m.1.toNat) x ∧ Below w.heap.size w w' := by
 refine (leastP_any v m w h (right_ok hr)).mono ?_
 rintro e w' ⟨x, ec, rfl, hq, hb⟩
 obtain ⟨rfl, h1⟩ := lpa_cst hr hc hz hq
 exact ⟨x, rfl, h1, hb⟩
theorem made_start (r : Int × List (Int × Bool × List Ar)) (k : Nat) (full : Bool) (h0 : 0 < k) : 0 ≤ (madeM r k full).1 := by
 show 0 ≤ pkR r.1 (sizeM r k)
 have hs : 0 < sizeM r k := by
  unfold sizeM
  omega
 exact (pkR_bd r.1 _ (by omega)).1
end Go.Proofs.Ytfpibdaedfilaaa.Wt
namespace Go.Proofs.Ytfpibdaedfilaaa.Pl
set_option linter.unusedVariables false
set_option linter.unusedSimpArgs false
def wghE2 (m : Mc) (x y : List Int) : Int := if faultM m ≠ 0 then faultM m else croE x y
def WgR (P : Nat → Prop) (r n ec : Int) : Prop := if r = 0 then WghAns P n ec else n = 0 ∧ ec = r
end Go.Proofs.Ytfpibdaedfilaaa.Pl
namespace Go.Proofs.Ytfpibdaedfilaaa.Wt
open Go.ChangeShapes Go.WideShapes Go.ChangeAt Go.RowKit
open Go.Proofs.Ytfpibdaedfilaaa.Pl
set_option linter.unusedVariables false
set_option linter.unusedSimpArgs false
theorem load_wait (B : Nat) (w : World) {v : Value} (h : w.cell? ⟨B, 0, none⟩ = some v) : (loadVar 162 ⟨B, 0, none⟩).run Try.prog w = .ok v w := by
 simp [loadVar, isAgg, underlying, Try.underlying162, h, Result.andThen]
theorem methW_push (B : Nat) (w : World) : Sem.run Try.prog (method 287 163 (.pointer (some ⟨B, 0, none⟩)) "Push") w = .ok (133, .pointer (some ⟨B, 0, none⟩)) w := by kernel_rfl
theorem methW_pop (B : Nat) (w : World) : Sem.run Try.prog (method 287 163 (.pointer (some ⟨B, 0, none⟩)) "Pop") w = .ok (132, .pointer (some ⟨B, 0, none⟩)) w := by kernel_rfl
theorem methW_len0 (B : Nat) (w : World) : Sem.run Try.prog (method 287 163 (.pointer (some ⟨B, 0, none⟩)) "Len") w = Sem.run Try.prog (do let v ← loadVar 162 ⟨B, 0, none⟩; pure (96, v)) w := by kernel_rfl
theorem methW_less0 (B : Nat) (w : World) : Sem.run Try.prog (method 287 163 (.pointer (some ⟨B, 0, none⟩)) "Less") w = Sem.run Try.prog (do let v ← loadVar 162 ⟨B, 0, none⟩; pure (130, v)) w := by kernel_rfl
theorem methW_swap0 (B : Nat) (w : World) : Sem.run Try.prog (method 287 163 (.pointer (some ⟨B, 0, none⟩)) "Swap") w = Sem.run Try.prog (do let v ← loadVar 162 ⟨B, 0, none⟩; pure (131, v)) w := by kernel_rfl
theorem methW_len {B : Nat} {w : World} {v : Value} (h : w.cell? ⟨B, 0, none⟩ = some v) : Sem.run Try.prog (method 287 163 (.pointer (some ⟨B, 0, none⟩)) "Len") w = .ok (96, v) w := by
 rw [methW_len0]; simp [load_wait B w h, Sem.run_bind]
theorem methW_less {B : Nat} {w : World} {v : Value} (h : w.cell? ⟨B, 0, none⟩ = some v) : Sem.run Try.prog (method 287 163 (.pointer (some ⟨B, 0, none⟩)) "Less") w = .ok (130, v) w := by
 rw [methW_less0]; simp [load_wait B w h, Sem.run_bind]
theorem methW_swap {B : Nat} {w : World} {v : Value} (h : w.cell? ⟨B, 0, none⟩ = some v) : Sem.run Try.prog (method 287 163 (.pointer (some ⟨B, 0, none⟩)) "Swap") w = .ok (131, v) w := by
 rw [methW_swap0]; simp [load_wait B w h, Sem.run_bind]
def FourW (w : World) (b o : Nat) (a : Ar) : Prop := w.cell? ⟨b, o, none⟩ = some (.int .i64 a.1) ∧ w.cell? ⟨b, o + 1, none⟩ = some (.int .i64 a.2.1) ∧ w.cell? ⟨b, o + 2, none⟩ = some (.int .i64 a.2.2.1) ∧ w.cell? ⟨b, o + 3, none⟩ = some (.int .i64 a.2.2.2)
theorem own_four {w : World} {base : Nat} {e : TypeId} {g n cap j : Nat} {ws : List Ar} (h : w.ownsRow base e 4 (.slice (some ⟨g, 0, none⟩) n cap) n (ws.flatMap encA)) (hj : j < ws.length) : FourW w g (j * 4) (el ws j) := by
 have hc : ∀ i u, i < 4 → (encA (el ws j))[i]? = some u → w.cell? ⟨g, j * 4 + i, none⟩ = some u := fun i u hi hu => by
  have := h.cells (g := g) rfl (j * 4 + i) u ((flat_at encA_len ws j hj i hi).trans hu)
  rw [Addr.add_lit, Nat.zero_add] at this
  exact this
 exact ⟨hc 0 _ (by omega) rfl, hc 1 _ (by omega) rfl, hc 2 _ (by omega) rfl, hc 3 _ (by omega) rfl⟩
theorem own_fzW {w : World} {base : Nat} {e : TypeId} {s g n cap : Nat} {ws : List Value} (h : w.ownsRow base e s (.slice (some ⟨g, 0, none⟩) n cap) n ws) (j : Nat) : w.frozen? ⟨g, j, none⟩ = false := by
 rcases h.2 with ⟨hv, hn0⟩ | ⟨g', cap', cur, hv, hbg, hg, _⟩
 ·simp at hv
 ·simp only [Value.slice.injEq, Option.some.injEq, Addr.mk.injEq, and_true, true_and] at hv
  obtain ⟨rfl, rfl⟩ := hv
  exact Blk.fz (t := e) hg j
theorem own_someW {w : World} {base : Nat} {e : TypeId} {s : Nat} {v : Value} {n : Nat} {ws : List Value} (h : w.ownsRow base e s v n ws) (hn : 0 < n) : ∃ g cap, v = .slice (some ⟨g, 0, none⟩) n cap ∧ g < w.heap.size ∧ n ≤ cap ∧ base ≤ g := by
 rcases h.2 with ⟨hv, hn0⟩ | ⟨g, cap, cur, rfl, hbg, hg, hnc, _⟩
 ·omega
 ·exact ⟨g, cap, rfl, Blk.lt (t := e) hg, hnc, hbg⟩
theorem own_slW {w : World} {base : Nat} {e : TypeId} {s : Nat} {v : Value} {n : Nat} {ws : List Value} (h : w.ownsRow base e s v n ws) : ∃ a cap, v = .slice a n cap := by
 rcases h.2 with ⟨hv, hn0⟩ | ⟨g, cap, cur, rfl, _⟩
 ·subst hn0; exact ⟨_, _, hv⟩
 ·exact ⟨_, _, rfl⟩
theorem own_thereW {w : World} {base : Nat} {e : TypeId} {g n cap j : Nat} {ws : List Ar} (h : w.ownsRow base e 4 (.slice (some ⟨g, 0, none⟩) n cap) n (ws.flatMap encA)) (hj : j < ws.length) : w.there g (j * 4) 4 := by
 obtain ⟨h0, h1, h2, h3⟩ := own_four h hj
 intro i hi
 refine ⟨?_, own_fzW h _⟩
 have : i = 0 ∨ i = 1 ∨ i = 2 ∨ i = 3 := by omega
 rcases this with rfl | rfl | rfl | rfl
 ·rw [Nat.add_zero, h0]; rfl
 ·rw [h1]; rfl
 ·rw [h2]; rfl
 ·rw [h3]; rfl
theorem set_wayL {xs : List Ar} {k : Nat} (hk : k < xs.length) (p : Ar) : ((((xs.flatMap encA).set (k * 4) (.int .i64 p.1)).set (k * 4 + 1) (.int .i64 p.2.1)).set (k * 4 + 2) (.int .i64 p.2.2.1)).set (k * 4 + 3) (.int .i64 p.2.2.2) = (xs.set k p).flatMap encA := by
  induction xs generalizing k with
  | nil => simp at hk
  | cons x xs ih =>
    cases k with
    | zero => simp [encA]
    | succ k =>
      have h4 := ih (k := k) (by simpa using hk)
      rw [List.set_cons_succ, List.flatMap_cons, List.flatMap_cons, ← h4]
      have e : ∀ (l : List Value) (i : Nat) (v : Value), (encA x ++ l).set ((k + 1) * 4 + i) v = encA x ++ l.set (k * 4 + i) v := fun l i v => by
        rw [List.set_append_right _ _ (by rw [encA_len]; omega), encA_len]
        congr 2
        omega
      have e0 := e (xs.flatMap encA) 0 (.int .i64 p.1)
      have e1 : (encA x ++ List.flatMap encA xs).set ((k + 1) * 4) (Value.int IntKind.i64 p.1) = encA x ++ (List.flatMap encA xs).set (k * 4) (Value.int IntKind.i64 p.1) := e0
      rw [e1, e, e, e]
theorem own_setW {w : World} {base : Nat} {e : TypeId} {g n cap j : Nat} {ws : List Ar} (h : w.ownsRow base e 4 (.slice (some ⟨g, 0, none⟩) n cap) n (ws.flatMap encA)) (hj : j < ws.length) (x : Ar) :
  (w.setCells g (j * 4) (encA x)).ownsRow base e 4 (.slice (some ⟨g, 0, none⟩) n cap) n ((ws.set j x).flatMap encA) := by
 have hlen := h.1
 rw [flat_length encA_len] at hlen
 rcases h.2 with ⟨hv, hn0⟩ | ⟨g', cap', cur, hv, hbg, hg, hnc, hcm, hcs, htake⟩
 ·simp at hv
 ·simp only [Value.slice.injEq, Option.some.injEq, Addr.mk.injEq, and_true, true_and] at hv
  obtain ⟨rfl, rfl⟩ := hv
  have hB : Blk w g cur e := hg
  refine ⟨by rw [flat_length encA_len, List.length_set]; exact hlen, .inr ⟨g, cap, (((cur.setIfInBounds (j * 4) (.int .i64 x.1)).setIfInBounds (j * 4 + 1) (.int .i64 x.2.1)).setIfInBounds (j * 4 + 2) (.int .i64 x.2.2.1)).setIfInBounds (j * 4 + 3) (.int .i64 x.2.2.2), rfl, hbg, ?_, hnc, hcm, by simpa using hcs, ?_⟩⟩
  ·have := (((hB.set (j * 4) (.int .i64 x.1)).set (j * 4 + 1) (.int .i64 x.2.1)).set (j * 4 + 2) (.int .i64 x.2.2.1)).set (j * 4 + 3) (.int .i64 x.2.2.2)
   exact this
  ·rw [Array.toList_setIfInBounds, Array.toList_setIfInBounds, Array.toList_setIfInBounds, Array.toList_setIfInBounds, List.take_set, List.take_set, List.take_set, List.take_set, htake]
   exact set_wayL hj x
theorem gSetW (w : World) (g o : Nat) (x : Ar) : w.grownBy (w.setCells g o (encA x)) (some g) :=
 gTrans (gTrans (gTrans (gSet w g o (.int .i64 x.1)) (gSet _ g (o + 1) (.int .i64 x.2.1))) (gSet _ g (o + 1 + 1) (.int .i64 x.2.2.1))) (gSet _ g (o + 1 + 1 + 1) (.int .i64 x.2.2.2))
set_option maxRecDepth 100000 in
theorem wLen_any (a : Option Addr) (n cap : Nat) (w : World) :
  Calls Try.prog 96 #[.slice a n cap] w fun e w' => e = .returned (.int .i64 (n : Int)) ∧ w' = w := by
 go_enter Try.func96, Try.ntmps96
 go_wp2
 go_ret
 exact ⟨rfl, rfl⟩
set_option maxRecDepth 100000 in
set_option maxHeartbeats 2000000 in
theorem wLess_any (g n cap : Nat) (w : World) (x y : Int) (i j : Nat) (hi : i < n) (hj : j < n) (hn : n ≤ 10000000) (ci : w.cell? ⟨g, i * 4 + 3, none⟩ = some (.int .i64 x)) (cj : w.cell? ⟨g, j * 4 + 3, none⟩ = some (.int .i64 y)) :
  Calls Try.prog 130 #[.slice (some ⟨g, 0, none⟩) n cap, .int .i64 (i : Int), .int .i64 (j : Int)] w fun e w' => e = .returned (.bool (decide (x < y))) ∧ ∃ q, w' = w.drewN q := by
 go_enter Try.func130, Try.ntmps130
 go_wp2
 go_quiet (fail)
 go_wp2
 go_ret
 exact ⟨rfl, _, rfl⟩
theorem infoWay : (Try.prog.info? 165).map (fun i => (i.zero, i.size, i.bytes)) = some (some (.agg #[.int .i64 0, .int .i64 0, .int .i64 0, .int .i64 0]), 4, 32) := by kernel_rfl
theorem infoWaySize : (Try.prog.info? 165).map (·.size) = some 4 := by kernel_rfl
def HeldT (_ : World) : Prop := True
set_option maxRecDepth 100000 in
set_option maxHeartbeats 2000000 in
theorem wSwap_any (g n cap : Nat) (w : World) (x y : Ar) (i j : Nat) (hi : i < n) (hj : j < n) (hn : n ≤ 10000000) (ci : FourW w g (i * 4) x) (cj : FourW w g (j * 4) y) (fi : w.there g (i * 4) 4) (fj : w.there g (j * 4) 4) :
  Calls Try.prog 131 #[.slice (some ⟨g, 0, none⟩) n cap, .int .i64 (i : Int), .int .i64 (j : Int)] w fun e w' => e = .returned (.tuple #[]) ∧ w' = (w.drew.setCells g (i * 4) (encA y)).setCells g (j * 4) (encA x) := by
 have F1 : Hid (w.drew.there g (i * 4) 4) := fi
 have F2 : Hid ((w.drew.setCells g (i * 4) (encA y)).there g (j * 4) 4) := World.there_setCells (w := w.drew) fj g (i * 4) (encA y)
 obtain ⟨W2, hW2⟩ : ∃ W2, W2 = (w.drew.setCells g (i * 4) (encA y)).setCells g (j * 4) (encA x) := ⟨_, rfl⟩
 have HW2 : Hid (W2 = (w.drew.setCells g (i * 4) (encA y)).setCells g (j * 4) (encA x)) := hW2
 rw [← hW2]
 clear hW2
 obtain ⟨x0, x1, x2, x3⟩ := x
 obtain ⟨y0, y1, y2, y3⟩ := y
 obtain ⟨a0, a1, a2, a3⟩ := ci
 obtain ⟨b0, b1, b2, b3⟩ := cj
 simp only at a0 a1 a2 a3 b0 b1 b2 b3
 have k1 : (0 : Int) ≤ (i : Int) := by omega
 have k2 : (i : Int) < (n : Int) := by omega
 have k3 : (0 : Int) ≤ (j : Int) := by omega
 have k4 : (j : Int) < (n : Int) := by omega
 clear fi fj
 have HS : HeldT w.drew := trivial
 go_enter Try.func131, Try.ntmps131
 go_wp2
 refine region_anyL HeldT 15 (by kernel_rfl) ?_
 refine anyL_tk (i := 0) (v := ?v0_1) aZ0 (by kernel_rfl) ?y0_1 HS ?r0_1
 case y0_1 => intro wx hx; obtain h1 := hx; go_simp; try (with_reducible rfl)
 simp only [Act.put, List.setIfInBounds_toArray, List.set_cons_zero, List.set_cons_succ]
 refine anyL_tk (i := 1) (v := ?v1_2) aZ1 (by kernel_rfl) ?y1_2 HS ?r1_2
 case y1_2 => intro wx hx; obtain h1 := hx; go_simp; try (with_reducible rfl)
 simp only [Act.put, List.setIfInBounds_toArray, List.set_cons_zero, List.set_cons_succ]
 refine anyL_tk (i := 2) (v := ?v2_3) aZ2 (by kernel_rfl) ?y2_3 HS ?r2_3
 case y2_3 => intro wx hx; obtain h1 := hx; go_simp; try (with_reducible rfl)
 simp only [Act.put, List.setIfInBounds_toArray, List.set_cons_zero, List.set_cons_succ]
 refine anyL_tk (i := 3) (v := ?v3_4) aZ3 (by kernel_rfl) ?y3_4 HS ?r3_4
 case y3_4 => intro wx hx; obtain h1 := hx; go_simp; try (with_reducible rfl)
 simp only [Act.put, List.setIfInBounds_toArray, List.set_cons_zero, List.set_cons_succ]
 refine anyL_tk (i := 4) (v := ?v4_5) aZ4 (by kernel_rfl) ?y4_5 HS ?r4_5
 case y4_5 => intro wx hx; obtain h1 := hx; go_simp; try (with_reducible rfl)
 simp only [Act.put, List.setIfInBounds_toArray, List.set_cons_zero, List.set_cons_succ]
 refine anyL_tk (i := 5) (v := ?v5_6) aZ5 (by kernel_rfl) ?y5_6 HS ?r5_6
 case y5_6 => intro wx hx; obtain h1 := hx; go_simp; try (with_reducible rfl)
 simp only [Act.put, List.setIfInBounds_toArray, List.set_cons_zero, List.set_cons_succ]
 refine anyL_tk (i := 6) (v := ?v6_7) aZ6 (by kernel_rfl) ?y6_7 HS ?r6_7
 case y6_7 => intro wx hx; obtain h1 := hx; go_simp; try (with_reducible rfl)
 simp only [Act.put, List.setIfInBounds_toArray, List.set_cons_zero, List.set_cons_succ]
 refine anyL_tk (i := 8) (v := ?v8_8) aZ8 (by kernel_rfl) ?y8_8 HS ?r8_8
 case y8_8 => intro wx hx; obtain h1 := hx; go_simp; try (with_reducible rfl)
 simp only [Act.put, List.setIfInBounds_toArray, List.set_cons_zero, List.set_cons_succ]
 refine anyL_tk (i := 9) (v := ?v9_9) aZ9 (by kernel_rfl) ?y9_9 HS ?r9_9
 case y9_9 => intro wx hx; obtain h1 := hx; go_simp; try (with_reducible rfl)
 simp only [Act.put, List.setIfInBounds_toArray, List.set_cons_zero, List.set_cons_succ]
 refine anyL_tk (i := 10) (v := ?v10_10) aZ10 (by kernel_rfl) ?y10_10 HS ?r10_10
 case y10_10 => intro wx hx; obtain h1 := hx; go_simp; try (with_reducible rfl)
 simp only [Act.put, List.setIfInBounds_toArray, List.set_cons_zero, List.set_cons_succ]
 refine anyL_br (rs := [7, 11]) (by kernel_rfl) (by simp) (List.forall_mem_cons.2 ⟨⟨_, (atS (atS (atS (atS (atS (atS (atS at0))))))), rfl, fun K hK => ?_⟩, List.forall_mem_cons.2 ⟨⟨_, (atS (atS (atS (atS (atS (atS (atS (atS (atS (atS (atS at0))))))))))), rfl, fun K hK => ?_⟩, fun _ h => absurd h (by simp)⟩⟩)
 ·go_simp
  refine hK _ _ (.inr trivial) ?_
  try simp only [Act.put, List.setIfInBounds_toArray, List.set_cons_zero, List.set_cons_succ]
  refine anyL_one (i := 11) aZ11 (by kernel_rfl) rfl (fun K hK => ?_)
  go_simp
  refine hK _ _ (.inr trivial) ?_
  try simp only [Act.put, List.setIfInBounds_toArray, List.set_cons_zero, List.set_cons_succ]
  refine anyL_tk (i := 12) (v := ?v12_11) aZ12 (by kernel_rfl) ?y12_11 HS ?r12_11
  case y12_11 => intro wx hx; obtain h1 := hx; go_simp; try (with_reducible rfl)
  simp only [Act.put, List.setIfInBounds_toArray, List.set_cons_zero, List.set_cons_succ]
  refine anyL_one (i := 13) aZ13 (by kernel_rfl) rfl (fun K hK => ?_)
  refine wp_store_mid 165 (.tmp 18) (.tmp 13) rfl g (i * 4) #[.int .i64 y0, .int .i64 y1, .int .i64 y2, .int .i64 y3] rfl rfl F1.out infoWaySize (by simp [Value.oneCell']) ?_
  refine hK _ _ (.inr trivial) ?_
  try simp only [Act.put, List.setIfInBounds_toArray, List.set_cons_zero, List.set_cons_succ]
  refine anyL_tk (i := 14) (v := ?v14_12) aZ14 (by kernel_rfl) ?y14_12 trivial ?r14_12
  case y14_12 => intro wx hx; obtain h1 := hx; go_simp; try (with_reducible rfl)
  simp only [Act.put, List.setIfInBounds_toArray, List.set_cons_zero, List.set_cons_succ]
  refine anyL_one (i := 15) aZ15 (by kernel_rfl) rfl (fun K hK => ?_)
  refine wp_store_mid 165 (.tmp 19) (.tmp 17) rfl g (j * 4) #[.int .i64 x0, .int .i64 x1, .int .i64 x2, .int .i64 x3] rfl rfl F2.out infoWaySize (by simp [Value.oneCell']) ?_
  rw [show (World.setCells (World.setCells w.drew g (i * 4) (#[Value.int .i64 y0, .int .i64 y1, .int .i64 y2, .int .i64 y3] : Array Value).toList) g (j * 4) (#[Value.int .i64 x0, .int .i64 x1, .int .i64 x2, .int .i64 x3] : Array Value).toList) = W2 from HW2.out.symm]
  refine hK _ _ (.inl rfl) (anyL_done (by kernel_rfl) (NoPanic.normal ?_))
  clear a0 a1 a2 a3 b0 b1 b2 b3 F1 F2 HW2 hK
  go_end0
  exact ⟨rfl, rfl⟩
 ·go_simp
  refine hK _ _ (.inr trivial) ?_
  try simp only [Act.put, List.setIfInBounds_toArray, List.set_cons_zero, List.set_cons_succ]
  refine anyL_one (i := 7) aZ7 (by kernel_rfl) rfl (fun K hK => ?_)
  go_simp
  refine hK _ _ (.inr trivial) ?_
  try simp only [Act.put, List.setIfInBounds_toArray, List.set_cons_zero, List.set_cons_succ]
  refine anyL_tk (i := 12) (v := ?v12_13) aZ12 (by kernel_rfl) ?y12_13 HS ?r12_13
  case y12_13 => intro wx hx; obtain h1 := hx; go_simp; try (with_reducible rfl)
  simp only [Act.put, List.setIfInBounds_toArray, List.set_cons_zero, List.set_cons_succ]
  refine anyL_one (i := 13) aZ13 (by kernel_rfl) rfl (fun K hK => ?_)
  refine wp_store_mid 165 (.tmp 18) (.tmp 13) rfl g (i * 4) #[.int .i64 y0, .int .i64 y1, .int .i64 y2, .int .i64 y3] rfl rfl F1.out infoWaySize (by simp [Value.oneCell']) ?_
  refine hK _ _ (.inr trivial) ?_
  try simp only [Act.put, List.setIfInBounds_toArray, List.set_cons_zero, List.set_cons_succ]
  refine anyL_tk (i := 14) (v := ?v14_14) aZ14 (by kernel_rfl) ?y14_14 trivial ?r14_14
  case y14_14 => intro wx hx; obtain h1 := hx; go_simp; try (with_reducible rfl)
  simp only [Act.put, List.setIfInBounds_toArray, List.set_cons_zero, List.set_cons_succ]
  refine anyL_one (i := 15) aZ15 (by kernel_rfl) rfl (fun K hK => ?_)
  refine wp_store_mid 165 (.tmp 19) (.tmp 17) rfl g (j * 4) #[.int .i64 x0, .int .i64 x1, .int .i64 x2, .int .i64 x3] rfl rfl F2.out infoWaySize (by simp [Value.oneCell']) ?_
  rw [show (World.setCells (World.setCells w.drew g (i * 4) (#[Value.int .i64 y0, .int .i64 y1, .int .i64 y2, .int .i64 y3] : Array Value).toList) g (j * 4) (#[Value.int .i64 x0, .int .i64 x1, .int .i64 x2, .int .i64 x3] : Array Value).toList) = W2 from HW2.out.symm]
  refine hK _ _ (.inl rfl) (anyL_done (by kernel_rfl) (NoPanic.normal ?_))
  clear a0 a1 a2 a3 b0 b1 b2 b3 F1 F2 HW2 hK
  go_end0
  exact ⟨rfl, rfl⟩
end Go.Proofs.Ytfpibdaedfilaaa.Wt
