/- The program: how far it is from the start, and to an end. -/
import Derived.Test.YtfpibdaedfilaaaFag
import Derived.Test.YtfpibdaedfilaaaFah
import Derived.Test.YtfpibdaedfilaaaFai
import Derived.Test.YtfpibdaedfilaaaFaj
import Derived.Test.YtfpibdaedfilaaaFaf
import Derived.Test.YtfpibdaedfilaaaFaa
import Derived.Test.YtfpibdaedfilaaaFab
import Derived.WalkKit
import Derived.ProofKit
import Derived.OpenShut
import Derived.Below
import Derived.SizedLaws
import Derived.Laws.AppendOwnNone
import Derived.BigQuiet
import Derived.Deep.QuietTactic
namespace Go.Proofs.Ytfpibdaedfilaaa.Wt
open Go.ChangeShapes Go.WideShapes Go.ChangeAt Go.RowKit
open Go.Proofs.Ytfpibdaedfilaaa.Pl
set_option linter.unusedVariables false
set_option linter.unusedSimpArgs false
def HeldDp (B : Nat) (z : Int) (v : Value) (w : World) : Prop := Blk w B #[.int .i64 z, v] 27
theorem HeldDp.two {B : Nat} {z : Int} {v : Value} {w : World} (h : HeldDp B z v w) : w.cell? ⟨B, 0, none⟩ = some (.int .i64 z) ∧ w.cell? ⟨B, 1, none⟩ = some v := ⟨h.cell 0 rfl, h.cell 1 rfl⟩
theorem tab_rows {w : World} {base g n : Nat} {rows : List Value} {F : List Ar} {f : Nat → List Ar} (h : Dw.WayTab w base g n rows f) : ∀ q, q < n → w.cell? ⟨g, q, none⟩ = some (el rows q) ∧ Row 2 Dw.encD w (el rows q) (stpW F f n q) := fun q hq => by
 rw [stpW_at hq]
 exact ⟨h.cell hq, Row.ofOwn Dw.encD_len (h.row q hq) rfl⟩
theorem nums_cells {w : World} {v : Value} {xs : List Int} (h : Nums w v xs) : ∃ a cap, v = .slice a xs.length cap ∧ ∀ j, j < xs.length → ∃ b off, a = some ⟨b, off, none⟩ ∧ w.cell? ⟨b, off + j, none⟩ = some (.int .i64 (el xs j)) := by
 by_cases hz : 0 < xs.length
 ·obtain ⟨b, off, cap, hv, hb, hc⟩ := Row.plain h (fun x => by rw [encI1_len]; omega) hz
  refine ⟨_, cap, hv, fun j hj => ⟨b, off, rfl, ?_⟩⟩
  have h9 := hc j hj 0 _ rfl
  rw [Nat.mul_one, Nat.add_zero] at h9
  exact h9
 ·obtain ⟨a, cap, hv⟩ := Row.sl h
  exact ⟨a, cap, hv, fun j hj => absurd hj (by omega)⟩
set_option maxRecDepth 100000 in
set_option maxHeartbeats 1600000 in
theorem endsP_ok (v : Value) (m : Mc) (w : World) (h : Mach w v m) (hok : okM m) (hr : faultM m = 0) :
  Calls Try.prog 22 #[v] w fun e w' => LstRes (LstAns (EndC m.2) m.2.length) w e w' := by
 obtain ⟨z, l⟩ := m
 obtain ⟨vs, rfl, hS⟩ := h
 obtain ⟨a, cap, rfl⟩ := hS.sl
 have HM : Hid (Mach w (.agg #[.int .i64 z, .slice a l.length cap]) (z, l)) := ⟨_, rfl, hS⟩
 have HK : Hid (okM (z, l)) := hok
 have HR : Hid (faultM (z, l) = 0) := hr
 have HZ : Hid (-1 ≤ z) := (right_parts hr).1.1
 have H60 : Hid (l.length ≤ 60) := (right_size hr).1
 have HSR := hidP (stpE_right (m := (z, l)) hr)
 have HPR := hidP (end_rch (m := (z, l)) hr)
 clear hS hok hr
 simp only at HSR HPR ⊢
 generalize hn : l.length = n at *
 have HN : Hid (l.length = n) := hn
 clear hn
 go_enter Try.func22, Try.ntmps22
 go_wp2_with (first
  | (go_at_call 30; (with_reducible refine (coreCheck_any _ (z, l) _ (HM.out.later (B := w.heap.size) (by go_grown) (Nat.le_refl _)) HK.out 0 HR.out).mono ?_); rintro e w1 ⟨rfl, hb⟩; obtain ⟨s1, b1, hb1⟩ := boxed hb (by simp); have K0 : HeldDp w.heap.size z (.slice a n cap) w1 := b1; have HB1 : Hid (Below w.heap.size w w1) := hb1; clear b1 hb1 hb))
 have K1 : HeldDp w.heap.size z (.slice a n cap) w1.drew := K0.drew
 refine region_anyL (HeldDp w.heap.size z (.slice a n cap)) 1000 (by kernel_rfl) ?_
 refine anyL_tk (i := 0) (v := ?v0_1) aZ0 (by kernel_rfl) ?y0_1 K1 ?r0_1
 case y0_1 => intro wx hx; obtain ⟨x0, x1⟩ := hx.two; go_simp; try (with_reducible rfl)
 simp only [Act.put, List.setIfInBounds_toArray, List.set_cons_zero, List.set_cons_succ]
 refine anyL_tk (i := 2) (v := ?v2_2) aZ2 (by kernel_rfl) ?y2_2 K1 ?r2_2
 case y2_2 => intro wx hx; obtain ⟨x0, x1⟩ := hx.two; go_simp; try (with_reducible rfl)
 simp only [Act.put, List.setIfInBounds_toArray, List.set_cons_zero, List.set_cons_succ]
 refine anyL_one (i := 1) aZ1 (by kernel_rfl) rfl (fun K hK => ?_)
 go_simp
 refine (Dw.ends_any z _ l _ (HM.out.later HB1.out.drew (Nat.le_refl _)) HR.out).mono ?_
 rintro e w2 ⟨v2, rfl, ho2, hb2⟩
 rw [HN.out] at ho2
 have K2 : HeldDp w.heap.size z (.slice a n cap) w2 := K1.below hb2 s1
 have HB2 : Hid (Below w.heap.size w w2) := HB1.out.trans ((Dw.below_undrewD hb2).mono HB1.out.size)
 have HO2 : Hid (Row 2 Dw.encD w2 v2 (endW l n)) := ho2
 have s2 : w1.heap.size ≤ w2.heap.size := hb2.size
 refine hK _ _ (.inr K2) ?_
 try simp only [Act.put, List.setIfInBounds_toArray, List.set_cons_zero, List.set_cons_succ]
 clear hb2 ho2 K0 K1
 refine anyL_one (i := 3) aZ3 (by kernel_rfl) rfl (fun K hK => ?_)
 go_simp
 refine (Dw.backward_any z _ l _ (HM.out.later HB2.out (Nat.le_refl _)) HR.out).mono ?_
 rintro e w3 ⟨rfl, ⟨rows, t3⟩, hb3⟩
 rw [HN.out] at t3
 have K3 : HeldDp w.heap.size z (.slice a n cap) w3 := K2.below hb3 (by omega)
 have HB3 : Hid (Below w.heap.size w w3) := HB2.out.trans (hb3.mono HB2.out.size)
 have HO3 : Hid (Row 2 Dw.encD w3 v2 (stpW (endW l n) (filS bkK l n) n n)) := by have h9 := HO2.out.later hb3 (Nat.le_refl _); show Row _ _ _ _ _; rw [stpW_src]; exact h9
 have HLA : Hid (Calls Try.prog 46 #[v2, .slice (some ⟨w2.heap.size + 1, 0, none⟩) n n] w3 fun e w' => LstRes (LstAns (EndC l) n) w3 e w') := Dw.least_any n (w2.heap.size + 1) v2 rows w3 H60.out HSR.out HPR.out HO3.out t3.blk.lt (tab_rows t3)
 refine hK _ _ (.inr K3) ?_
 try simp only [Act.put, List.setIfInBounds_toArray, List.set_cons_zero, List.set_cons_succ, HN.out]
 clear t3 K2
 refine anyL_one (i := 4) aZ4 (by kernel_rfl) rfl (fun K hK => ?_)
 go_simp
 refine HLA.out.mono ?_
 rintro e w4 ⟨v4, vs4, ec4, rfl, hA4, hN4, hb4⟩
 have K4 : HeldDp w.heap.size z (.slice a n cap) w4 := K3.below hb4 (by have := hb3.size; omega)
 have HB4 : Hid (Below w.heap.size w w4) := HB3.out.trans (hb4.mono HB3.out.size)
 have HA4 := hidP hA4
 have HN4 := hidP hN4
 refine hK _ _ (.inr K4) ?_
 try simp only [Act.put, List.setIfInBounds_toArray, List.set_cons_zero, List.set_cons_succ]
 clear hA4 hN4 hb4 hb3 K3
 refine anyL_tk (i := 5) (v := ?v5_3) aZ5 (by kernel_rfl) ?y5_3 K4 ?r5_3
 case y5_3 => intro wx hx; obtain ⟨x0, x1⟩ := hx.two; go_simp; try (with_reducible rfl)
 simp only [Act.put, List.setIfInBounds_toArray, List.set_cons_zero, List.set_cons_succ]
 refine anyL_tk (i := 6) (v := ?v6_4) aZ6 (by kernel_rfl) ?y6_4 K4 ?r6_4
 case y6_4 => intro wx hx; obtain ⟨x0, x1⟩ := hx.two; go_simp; try (with_reducible rfl)
 simp only [Act.put, List.setIfInBounds_toArray, List.set_cons_zero, List.set_cons_succ]
 refine anyL_one (i := 7) aZ7 (by kernel_rfl) rfl (fun K hK => ?_)
 go_simp
 refine hK _ _ (.inr K4) ?_
 try simp only [Act.put, List.setIfInBounds_toArray, List.set_cons_zero, List.set_cons_succ]
 refine anyL_one (i := 8) aZ8 (by kernel_rfl) rfl (fun K hK => ?_)
 go_simp
 refine hK _ _ (.inr K4) (anyL_done (by kernel_rfl) (NoPanic.normal ?_))
 try simp only [Act.put, List.setIfInBounds_toArray, List.set_cons_zero, List.set_cons_succ]
 clear K4
 go_wp2
 exact bodyPost_ret (v := .tuple #[v4, .int .i64 ec4]) (by simp [results, Try.results22, go_sem]) rfl ⟨_, vs4, ec4, rfl, HA4.out, HN4.out, HB4.out⟩
set_option maxRecDepth 100000 in
theorem endsP_bad (v : Value) (m : Mc) (w : World) (h : Mach w v m) (hok : okM m) (r : Int) (hr : faultM m = r) (h0 : ¬ r = 0) :
  Calls Try.prog 22 #[v] w fun e w' => e = .returned (.tuple #[.slice none 0 0, .int .i64 r]) ∧ Below w.heap.size w w' := by
 obtain ⟨z, l⟩ := m
 obtain ⟨vs, rfl, hS⟩ := h
 obtain ⟨a, cap, rfl⟩ := hS.sl
 have HM : Hid (Mach w (.agg #[.int .i64 z, .slice a l.length cap]) (z, l)) := ⟨_, rfl, hS⟩
 have HK : Hid (okM (z, l)) := hok
 have HR : Hid (faultM (z, l) = r) := hr
 clear hS hok hr
 simp only
 have hne : (r != 0) = true := by simpa using h0
 generalize l.length = n at *
 go_enter Try.func22, Try.ntmps22
 go_wp2_with (first
  | (go_at_call 30; (with_reducible refine (coreCheck_any _ (z, l) _ (HM.out.later (B := w.heap.size) (by go_grown) (Nat.le_refl _)) HK.out r HR.out).mono ?_); rintro e w1 ⟨rfl, hb⟩; obtain ⟨s1, b1, hb1⟩ := boxed hb (by simp); have HB1 : Hid (Below w.heap.size w w1) := hb1; clear b1 hb1 hb))
 go_ret2
 exact ⟨rfl, HB1.out⟩
theorem endsP_any (v : Value) (m : Mc) (w : World) (h : Mach w v m) (hok : okM m) :
  Calls Try.prog 22 #[v] w fun e w' => LstRes (DstAns m (EndC m.2)) w e w' := by
 by_cases hr : faultM m = 0
 ·refine (endsP_ok v m w h hok hr).mono ?_
  rintro e w' ⟨vr, vs, ec, rfl, h1, h2, h3⟩
  exact ⟨vr, vs, ec, rfl, .inr ⟨hr, h1⟩, h2, h3⟩
 ·refine (endsP_bad v m w h hok _ rfl hr).mono ?_
  rintro e w' ⟨rfl, h3⟩
  exact ⟨_, [], _, rfl, .inl ⟨hr, rfl, rfl⟩, .inl ⟨rfl, rfl⟩, h3⟩
theorem least_cases {z : Int} {l : List St} {vs : List Int} {ec : Int} {w : World} {v : Value} (hA : DstAns (z, l) (EndC l) vs ec) (hN : Nums w v vs) :
  (ec ≠ 0 ∧ (ec != 0) = true) ∨ (ec = 0 ∧ z = -1) ∨ (ec = 0 ∧ ∃ q : Nat, z = (q : Int) ∧ ((q : Int) == -1) = false ∧ ∃ b off cap, v = .slice (some ⟨b, off, none⟩) vs.length cap ∧ w.cell? ⟨b, off + q, none⟩ = some (.int .i64 (el vs q)) ∧ (q : Int) < ((vs.length : Nat) : Int)) := by
 by_cases he : ec = 0
 ·subst he
  by_cases hz : z = -1
  ·exact .inr (.inl ⟨rfl, hz⟩)
  ·have hln := hA.len
   simp only at hln
   obtain ⟨a1, cap1, hv, hcl⟩ := nums_cells hN
   obtain ⟨b2, off2, ha2, hcq⟩ := hcl z.toNat (by omega)
   subst ha2
   exact .inr (.inr ⟨rfl, z.toNat, by omega, by simp; omega, b2, off2, cap1, hv, hcq, by omega⟩)
 ·exact .inl ⟨he, by simpa using he⟩
set_option maxRecDepth 100000 in
set_option maxHeartbeats 1600000 in
theorem leastP_any (v : Value) (m : Mc) (w : World) (h : Mach w v m) (hok : okM m) :
  Calls Try.prog 12 #[v] w fun e w' => ∃ x ec : Int, e = .returned (.tuple #[.int .i64 x, .int .i64 ec]) ∧ LpaAns m x ec ∧ Below w.heap.size w w' := by
 obtain ⟨z, l⟩ := m
 obtain ⟨vs, rfl, hS⟩ := h
 obtain ⟨a, cap, rfl⟩ := hS.sl
 have HM : Hid (Mach w (.agg #[.int .i64 z, .slice a l.length cap]) (z, l)) := ⟨_, rfl, hS⟩
 have HK : Hid (okM (z, l)) := hok
 clear hS hok
 simp only
 generalize hn : l.length = n at *
 have HN : Hid (l.length = n) := hn
 clear hn
 have HCL : Hid (∀ W, Below w.heap.size w W → Calls Try.prog 22 #[.agg #[.int .i64 z, .slice a n cap]] W fun e w' => LstRes (DstAns (z, l) (EndC l)) W e w') := fun W hW => endsP_any _ (z, l) W (HM.out.later hW (Nat.le_refl _)) HK.out
 go_enter Try.func12, Try.ntmps12
 go_wp2_with (first
  | (go_at_call 22; ((with_reducible refine (HCL.out _ (by go_grown)).mono ?_); rintro e w1 ⟨v1, vs1, ec1, rfl, hA1, hN1, hb⟩; obtain ⟨s1, b1, hb1⟩ := boxed hb (by simp); have c0 := b1.cell 0 (v := .int .i64 z) rfl; have HB1 := hidP hb1; have HA1 := hidP hA1; have HN1 := hidP hN1; clear b1 hb1 hb hA1 hN1; rcases least_cases HA1.out HN1.out with ⟨he, heb⟩ | ⟨rfl, rfl⟩ | ⟨rfl, q, rfl, hzb, b2, off2, cap1, rfl, hcq, hqn⟩)))
 all_goals first
  | (go_ret2; exact ⟨_, _, rfl, ⟨vs1, ec1, HA1.out, .inl ⟨he, rfl, rfl⟩⟩, HB1.out⟩)
  | (go_ret2; exact ⟨_, _, rfl, ⟨vs1, 0, HA1.out, .inr ⟨rfl, rfl, by rw [if_pos (by show (-1 : Int) < 0; decide)]⟩⟩, HB1.out⟩)
  | (go_ret2; exact ⟨_, _, rfl, ⟨vs1, 0, HA1.out, .inr ⟨rfl, rfl, by rw [if_neg (by show ¬ (q : Int) < 0; omega)]; simp only [Int.toNat_natCast]⟩⟩, HB1.out⟩)
end Go.Proofs.Ytfpibdaedfilaaa.Wt
namespace Go.Proofs.Ytfpibdaedfilaaa.Pl
set_option linter.unusedVariables false
set_option linter.unusedSimpArgs false
def S (f : Nat → Nat) : Nat → Nat
 | 0 => 0
 | n + 1 => S f n + f n
inductive Stc (a : Mc) : List Int → List Int → Nat → Prop
 | nil : Stc a [] [] 0
 | snoc {x y x' y' : List Int} {c d : Nat} (h : Stc a x y c) (k : Costs a x' y' d) : Stc a (x ++ x') (y ++ y') (c + d)
def CstIs (P : Nat → Prop) (n : Int) : Prop := (n = 1000000001 ∧ ∀ c, ¬ P c) ∨ ∃ c : Nat, LeastP P c ∧ c ≤ 100000000 ∧ n = (c : Int)
theorem cst_of {P : Nat → Prop} {n e : Int} (h : WghAns P n e) (hb : ∀ c, P c → ∃ d, d ≤ 100000000 ∧ P d) : e = 0 ∧ CstIs P n := by
 rcases h with ⟨h, rfl, rfl⟩ | ⟨c, hc, h⟩
 ·exact ⟨rfl, .inl ⟨rfl, h⟩⟩
 ·obtain ⟨d, hd, hp⟩ := hb c hc.1
  have := hc.2 d hp
  rcases h with ⟨h1, rfl, rfl⟩ | ⟨h1, rfl, rfl⟩
  ·exact ⟨rfl, .inr ⟨c, hc, by omega, rfl⟩⟩
  ·omega
def CheapL (l : List St) : Prop := ∀ s ∈ l, (s.1 ≠ 1000000001 → s.1 ≤ 8000) ∧ ∀ a ∈ s.2, a.2.2.1 ≤ 8000
theorem made_cheap (r : Int × List (Int × Bool × List Ar)) (states : Nat) (full : Bool) : CheapL (madeM r states full).2 := fun s hs => by
 simp only [madeM, statesM, List.mem_map] at hs
 obtain ⟨q, _, rfl⟩ := hs
 split
 ·exact ⟨fun _ => by simp, fun a ha => absurd ha (by simp)⟩
 ·refine ⟨fun h => ?_, fun a ha => ?_⟩
  ·unfold stM at h ⊢
   simp only at h ⊢
   split
   ·have := pkR_bd (el r.2 q).1 10 (by omega); omega
   ·rename_i g; rw [if_neg g] at h; exact absurd rfl h
  ·simp only [stM, List.mem_map] at ha
   obtain ⟨e, _, rfl⟩ := ha
   unfold arM
   have := pkR_bd e.2.2.1 10 (by omega)
   simp only
   omega
end Go.Proofs.Ytfpibdaedfilaaa.Pl
namespace Go.Proofs.Ytfpibdaedfilaaa.Wt
open Go.ChangeShapes Go.WideShapes Go.ChangeAt Go.RowKit
open Go.Proofs.Ytfpibdaedfilaaa.Pl
set_option linter.unusedVariables false
set_option linter.unusedSimpArgs false
theorem right_ok {m : Mc} (h : faultM m = 0) : okM m := by
 have h1 := right_size (z := m.1) (l := m.2) h
 exact small_ok (by omega) (by omega)
theorem arcN_four : ∀ l : List St, (∀ s ∈ l, s.2.length ≤ 4) → arcN l ≤ 4 * l.length
  | [], _ => by simp [arcN]
  | s :: l, h => by
    have h0 := h s (by simp)
    have := arcN_four l (fun t ht => h t (by simp [ht]))
    simp only [arcN, List.length_cons]
    omega
theorem made_facts (r : Int × List (Int × Bool × List Ar)) (k : Nat) (h0 : 0 < k) (h8 : k ≤ 8) : faultM (madeM r k false) = 0 ∧ CheapL (madeM r k false).2 ∧ (madeM r k false).2.length ≤ k ∧ arcN (madeM r k false).2 ≤ 4 * k ∧ 0 < (madeM r k false).2.length := by
 have hlen : (madeM r k false).2.length = sizeM r k := statesM_length _ _ _
 have hn : 0 < sizeM r k ∧ sizeM r k ≤ k := by unfold sizeM; omega
 refine ⟨madeM_right r k h0 h8 false, made_cheap r k false, by omega, ?_, by omega⟩
 have := arcN_four (madeM r k false).2 (fun s hs => by
  simp only [madeM, statesM, List.mem_map] at hs
  obtain ⟨q, _, rfl⟩ := hs
  split
  ·simp
  ·exact stM_few _ _ _)
 omega
theorem start_lt {m : Mc} (h : faultM m = 0) : m.1 < (m.2.length : Int) := by
 have := (right_parts h).1.2
 omega
end Go.Proofs.Ytfpibdaedfilaaa.Wt
namespace Go.Proofs.Ytfpibdaedfilaaa.Pl
set_option linter.unusedVariables false
set_option linter.unusedSimpArgs false
theorem arcE_cheap {m : Mc} (hc : CheapL m.2) {k w j : Nat} (e : ArcE m.2 k w j) : w ≤ 8000 := by
 have hk := arcE_in e
 obtain ⟨a, ha, _, rfl⟩ := e
 have := (hc _ (el_mem hk)).2 a ha
 omega
theorem run_cheap {m : Mc} (hr : faultM m = 0) (hc : CheapL m.2) {s n q c : Nat} (hs : s < m.2.length) (h : Run (ArcE m.2) s n q c) : ∃ n' d, d ≤ 480000 ∧ d ≤ c ∧ Run (ArcE m.2) s n' q d := by
 have h60 := (right_size (z := m.1) (l := m.2) hr).1
 obtain ⟨n', d, hn, hd, h'⟩ := h.cheap hs (fun k w j e => (arcE_small hr e).1)
 have h1 := h'.cost (W := 8000) (fun k w j e => arcE_cheap hc e)
 have h2 : n' * 8000 ≤ 60 * 8000 := Nat.mul_le_mul_right _ (by omega)
 exact ⟨n', d, by omega, hd, h'⟩
theorem end_bound {m : Mc} (hr : faultM m = 0) (hc : CheapL m.2) {q c : Nat} (hq : q < m.2.length) (h : EndC m.2 q c) : ∃ d, d ≤ 100000000 ∧ EndC m.2 q d := by
 obtain ⟨n, p, d, h, hp, hf, rfl⟩ := h
 obtain ⟨n', d', hd, _, h'⟩ := run_cheap hr hc hq h
 have := (hc _ (el_mem hp)).1 hf
 exact ⟨d' + (el m.2 p).1.toNat, by omega, n', p, d', h', hp, hf, rfl⟩
theorem dst_cst {m : Mc} {P : Nat → Nat → Prop} {vs : List Int} {ec : Int} (hr : faultM m = 0) (hb : ∀ q, q < m.2.length → ∀ c, P q c → ∃ d, d ≤ 100000000 ∧ P q d) (h : DstAns m P vs ec) : ec = 0 ∧ vs.length = m.2.length ∧ ∀ q, q < m.2.length → CstIs (P q) (el vs q) := by
 rcases h with ⟨h, _⟩ | ⟨_, ⟨h1, h2, h3⟩ | ⟨_, _, q, hq, h4⟩⟩
 ·exact absurd hr h
 ·exact ⟨h1, h2, fun q hq => (cst_of (h3 q hq) (hb q hq)).2⟩
 ·exact absurd (cst_of h4 (hb q hq)).1 (by decide)
theorem end_cst {m : Mc} {vs : List Int} {ec : Int} (hr : faultM m = 0) (hc : CheapL m.2) (h : DstAns m (EndC m.2) vs ec) : ec = 0 ∧ vs.length = m.2.length ∧ ∀ q, q < m.2.length → CstIs (EndC m.2 q) (el vs q) := dst_cst hr (fun q hq c => end_bound hr hc hq) h
theorem lpa_cst {m : Mc} {x ec : Int} (hr : faultM m = 0) (hc : CheapL m.2) (hz : 0 ≤ m.1) (h : LpaAns m x ec) : ec = 0 ∧ CstIs (EndC m.2 m.1.toNat) x := by
 obtain ⟨vs, f, h1, h2⟩ := h
 obtain ⟨rfl, h3, h4⟩ := end_cst hr hc h1
 rcases h2 with ⟨h2, _⟩ | ⟨_, h5, h6⟩
 ·exact absurd rfl h2
 ·rw [if_neg (by omega)] at h6
  rw [h6]
  exact ⟨h5, h4 _ (by have := (right_parts hr).1; omega)⟩
end Go.Proofs.Ytfpibdaedfilaaa.Pl
namespace Go.Proofs.Ytfpibdaedfilaaa.Wt
open Go.ChangeShapes Go.WideShapes Go.ChangeAt Go.RowKit
open Go.Proofs.Ytfpibdaedfilaaa.Pl
set_option linter.unusedVariables false
set_option linter.unusedSimpArgs false
theorem least_cst (v : Value) (m : Mc) (w : World) (h : Mach w v m) (hr : faultM m = 0) (hc : CheapL m.2) (hz : 0 ≤ m.1) : Calls Try.prog 12 #[v] w fun e w' => ∃ x : Int, e = .returned (.tuple #[.int .i64 x, .int .i64 0]) ∧ CstIs (EndC m.2 m.1.toNat) x ∧ Below w.heap.size w w' := by
 refine (leastP_any v m w h (right_ok hr)).mono ?_
 rintro e w' ⟨x, ec, rfl, hq, hb⟩
 obtain ⟨rfl, h1⟩ := lpa_cst hr hc hz hq
 exact ⟨x, rfl, h1, hb⟩
theorem made_start (r : Int × List (Int × Bool × List Ar)) (k : Nat) (full : Bool) (h0 : 0 < k) : 0 ≤ (madeM r k full).1 := by
 show 0 ≤ pkR r.1 (sizeM r k)
 have hs : 0 < sizeM r k := by
  unfold sizeM
  omega
 exact (pkR_bd r.1 _ (by omega)).1
end Go.Proofs.Ytfpibdaedfilaaa.Wt
namespace Go.Proofs.Ytfpibdaedfilaaa.Pl
set_option linter.unusedVariables false
set_option linter.unusedSimpArgs false
def fE (l : List St) (q c : Nat) : Nat := if (el l q).1 ≠ 1000000001 ∧ (el l q).1.toNat ≤ c then 1 else 0
def eN (l : List St) : Nat → Nat → Nat → Nat
 | 0 => fE l
 | k + 1 => fun q c => ((el l q).2.map fun a => if a.2.2.1.toNat ≤ c then eN l k a.2.2.2.toNat (c - a.2.2.1.toNat) else 0).sum
def sN (l : List St) (k q c : Nat) : Nat := ((List.range k).map fun j => eN l j q c).sum
theorem sN_zero (l : List St) (q c : Nat) : sN l 0 q c = 0 := rfl
theorem sN_succ (l : List St) (k q c : Nat) : sN l (k + 1) q c = sN l k q c + eN l k q c := by
 unfold sN
 rw [List.range_succ, List.map_append, List.sum_append]
 simp
theorem sum_add {α : Type} (L : List α) (f g : α → Nat) : (L.map fun a => f a + g a).sum = (L.map f).sum + (L.map g).sum := by
 induction L with
 | nil => rfl
 | cons a L ih => simp only [List.map_cons, List.sum_cons, ih]; omega
theorem sum_none {α : Type} {L : List α} {f : α → Nat} (h : ∀ a ∈ L, f a = 0) : (L.map f).sum = 0 := by
 induction L with
 | nil => rfl
 | cons a L ih => rw [List.map_cons, List.sum_cons, h a (List.mem_cons_self ..), ih fun b hb => h b (List.mem_cons_of_mem _ hb)]
theorem one_at_most {K : Nat} {D : List Nat} (hd : D.Nodup) (h : ∀ j ∈ D, j = K) : D.length ≤ 1 := by
  match D, hd, h with
  | [], _, _ => exact Nat.zero_le _
  | [_], _, _ => exact Nat.le_refl _
  | a :: b :: D, hd, h =>
    have h1 := h a (by simp)
    have h2 := h b (by simp)
    rw [List.nodup_cons] at hd
    exact absurd (by rw [h1, h2]; simp) hd.1
theorem sN_front (l : List St) (k q c : Nat) : sN l (k + 1) q c = fE l q c + ((el l q).2.map fun a => if a.2.2.1.toNat ≤ c then sN l k a.2.2.2.toNat (c - a.2.2.1.toNat) else 0).sum := by
  induction k with
  | zero =>
    rw [sN_succ, sN_zero, Nat.zero_add]
    have : ((el l q).2.map fun a => if a.2.2.1.toNat ≤ c then sN l 0 a.2.2.2.toNat (c - a.2.2.1.toNat) else 0).sum = 0 := by
      refine sum_none fun a _ => ?_
      rw [sN_zero]
      split <;> rfl
    rw [this]; rfl
  | succ k ih =>
    rw [sN_succ, ih]
    have : ((el l q).2.map fun a => if a.2.2.1.toNat ≤ c then sN l (k + 1) a.2.2.2.toNat (c - a.2.2.1.toNat) else 0).sum = ((el l q).2.map fun a => if a.2.2.1.toNat ≤ c then sN l k a.2.2.2.toNat (c - a.2.2.1.toNat) else 0).sum + eN l (k + 1) q c := by
      show _ = _ + ((el l q).2.map fun a => if a.2.2.1.toNat ≤ c then eN l k a.2.2.2.toNat (c - a.2.2.1.toNat) else 0).sum
      rw [← sum_add]
      congr 1
      refine List.map_congr_left fun a _ => ?_
      split
      · rw [sN_succ]
      · rfl
    omega
theorem sN_mono (l : List St) {j k : Nat} (h : j ≤ k) (q c : Nat) : sN l j q c ≤ sN l k q c := by
 induction h with
 | refl => exact Nat.le_refl _
 | step _ ih => rw [sN_succ]; omega
theorem sum_pos {L : List Nat} (h : 0 < L.sum) : ∃ x ∈ L, 0 < x := by
  induction L with
  | nil => cases h
  | cons a L ih =>
    rw [List.sum_cons] at h
    by_cases ha : 0 < a
    · exact ⟨a, List.mem_cons_self .., ha⟩
    · obtain ⟨x, hx, h0⟩ := ih (by omega)
      exact ⟨x, List.mem_cons_of_mem _ hx, h0⟩
theorem sum_ge {L : List Nat} {x : Nat} (h : x ∈ L) : x ≤ L.sum := by
  induction L with
  | nil => cases h
  | cons a L ih =>
    rw [List.sum_cons]
    rcases List.mem_cons.1 h with rfl | h
    · omega
    · have := ih h; omega
theorem eN_pos {l : List St} (hto : ∀ q, q < l.length → ∀ a ∈ (el l q).2, ∃ t : Nat, a.2.2.2 = (t : Int) ∧ t < l.length) : ∀ {k q c : Nat}, q < l.length → (0 < eN l k q c ↔ ∃ p d, Run (ArcE l) q k p d ∧ p < l.length ∧ (el l p).1 ≠ 1000000001 ∧ d + (el l p).1.toNat ≤ c)
  | 0, q, c, hq => by
    show 0 < fE l q c ↔ _
    unfold fE
    constructor
    · intro h
      split at h
      · rename_i g
        exact ⟨q, 0, .nil, hq, g.1, by omega⟩
      · cases h
    · rintro ⟨p, d, h, h1, h2, h3⟩
      cases h
      rw [if_pos ⟨h2, by omega⟩]; exact Nat.one_pos
  | k + 1, q, c, hq => by
    show 0 < ((el l q).2.map _).sum ↔ _
    constructor
    · intro h
      obtain ⟨x, hx, h0⟩ := sum_pos h
      obtain ⟨a, ha, rfl⟩ := List.mem_map.1 hx
      split at h0
      · rename_i g
        obtain ⟨t, e1, e2⟩ := hto q hq a ha
        rw [e1, Int.toNat_natCast] at h0
        obtain ⟨p, d, h1, h2, h3, h4⟩ := (eN_pos hto e2).1 h0
        exact ⟨p, a.2.2.1.toNat + d, Run.first ⟨a, ha, e1, rfl⟩ h1, h2, h3, by omega⟩
      · cases h0
    · rintro ⟨p, d, h, h1, h2, h3⟩
      obtain ⟨j, w, d', ⟨a, ha, e1, rfl⟩, h4, rfl⟩ := h.head
      obtain ⟨t, f1, f2⟩ := hto q hq a ha
      have ej : j = t := by omega
      subst ej
      refine Nat.lt_of_lt_of_le ?_ (sum_ge (List.mem_map.2 ⟨a, ha, rfl⟩))
      rw [if_pos (by omega), e1, Int.toNat_natCast]
      exact (eN_pos hto f2).2 ⟨p, d', h4, h1, h2, by omega⟩
theorem split_len {α : Type} (p : α → Bool) (L : List α) : L.length = (L.filter p).length + (L.filter fun i => !p i).length := by
  induction L with
  | nil => rfl
  | cons a L ih =>
    cases h : p a <;> simp [List.filter_cons, h] <;> omega
theorem pigeonM {f : Nat → Nat} {m : Nat} : ∀ (N : Nat) (L : List Nat), (∀ i ∈ L, f i < N) → (∀ s, s < N → (L.filter fun i => f i == s).length ≤ m) → L.length ≤ N * m
  | 0, L, h, _ => by
    cases L with
    | nil => exact Nat.zero_le _
    | cons a L => exact absurd (h a (List.mem_cons_self ..)) (Nat.not_lt_zero _)
  | N + 1, L, h, g => by
    have h1 := pigeonM (f := f) (m := m) N (L.filter fun i => !(f i == N)) (fun i hi => by
      obtain ⟨a, b⟩ := List.mem_filter.1 hi
      have := h i a
      simp only [Bool.not_eq_true', beq_eq_false_iff_ne] at b
      omega) (fun s hs => by
      refine Nat.le_trans ?_ (g s (by omega))
      exact (List.Sublist.filter _ List.filter_sublist).length_le)
    have h2 := g N (Nat.lt_succ_self N)
    have h3 := split_len (fun i => f i == N) L
    rw [Nat.succ_mul]
    omega
theorem sum_many {K : Nat} {g : Nat → Nat} {D : List Nat} (hd : D.Nodup) (h : ∀ j ∈ D, j < K ∧ 0 < g j) : D.length ≤ ((List.range K).map g).sum := by
  induction K generalizing D with
  | zero =>
    cases D with
    | nil => exact Nat.zero_le _
    | cons a D => exact absurd (h a (List.mem_cons_self ..)).1 (Nat.not_lt_zero _)
  | succ K ih =>
    rw [List.range_succ, List.map_append, List.sum_append]
    have h1 := ih (D := D.filter fun j => j != K) (hd.filter _) (fun j hj => by
      obtain ⟨a, b⟩ := List.mem_filter.1 hj
      have := h j a
      simp only [bne_iff_ne, ne_eq] at b
      exact ⟨by omega, this.2⟩)
    by_cases hk : K ∈ D
    · have h2 : D.length ≤ (D.filter fun j => j != K).length + 1 := by
        have h3 := one_at_most (K := K) (hd.filter fun j => j == K) (fun j hj => by simpa using (List.mem_filter.1 hj).2)
        have h4 := split_len (fun j => j == K) D
        have h5 : (D.filter fun j => !(j == K)) = D.filter fun j => j != K := rfl
        rw [h5] at h4
        omega
      have := (h K hk).2
      simp only [List.map_cons, List.map_nil, List.sum_cons, List.sum_nil]
      omega
    · have h2 : D.filter (fun j => j != K) = D := List.filter_eq_self.2 fun j hj => by simp only [bne_iff_ne, ne_eq]; exact fun e => hk (e ▸ hj)
      rw [h2] at h1
      omega
theorem short_many {l : List St} (hto : ∀ q, q < l.length → ∀ a ∈ (el l q).2, ∃ t : Nat, a.2.2.2 = (t : Int) ∧ t < l.length) {n q c k : Nat} (hq : q < l.length) (hk : l.length * (n + 1) ≤ k) (h : 0 < eN l k q c) : ∃ D : List Nat, D.Nodup ∧ n < D.length ∧ ∀ j ∈ D, j < k ∧ 0 < eN l j q c := by
  obtain ⟨p, d, hr, hp, hf, hc⟩ := (eN_pos hto hq).1 h
  obtain ⟨f, g, f0, fk, gk, hparts, hmono⟩ := hr.parts
  have hE : ∀ k w j, ArcE l k w j → j < l.length := fun k w j ⟨a, ha, e1, _⟩ => by
    by_cases hk : k < l.length
    · obtain ⟨t, e2, e3⟩ := hto k hk a ha
      omega
    · rw [show el l k = default by simp [el, List.getElem?_eq_none (Nat.le_of_not_lt hk)]] at ha
      cases ha
  have hlt : ∀ {n k c : Nat}, Run (ArcE l) q n k c → k < l.length := fun h => by
    cases h with
    | nil => exact hq
    | step h e => exact hE _ _ _ e
  have hfl : ∀ i, i ≤ k → f i < l.length := fun i hi => hlt (hparts i hi).1
  -- some state is met often
  obtain ⟨s, hs⟩ : ∃ s, n + 1 < ((List.range (l.length * (n + 1) + 1)).filter fun i => f i == s).length := by
    refine Classical.byContradiction fun hn => ?_
    have := pigeonM (f := f) (m := n + 1) l.length (List.range (l.length * (n + 1) + 1)) (fun i hi => hfl i (by have := List.mem_range.1 hi; omega)) (fun s _ => by
      rcases Nat.lt_or_ge (n + 1) ((List.range (l.length * (n + 1) + 1)).filter fun i => f i == s).length with x | x
      · exact absurd ⟨s, x⟩ hn
      · exact x)
    rw [List.length_range] at this
    omega
  have hall : ∀ i ∈ (List.range (l.length * (n + 1) + 1)).filter (fun i => f i == s), f i = s ∧ i ≤ k := fun i hi => by
    obtain ⟨a, b⟩ := List.mem_filter.1 hi
    have := List.mem_range.1 a
    exact ⟨by simpa using b, by omega⟩
  have hpw : ((List.range (l.length * (n + 1) + 1)).filter fun i => f i == s).Pairwise (· < ·) := List.Pairwise.filter _ List.pairwise_lt_range
  generalize (List.range (l.length * (n + 1) + 1)).filter (fun i => f i == s) = P at *
  match P, hs, hall, hpw with
  | [], hs, _, _ => cases hs
  | i0 :: P, hs, hall, hpw =>
    rw [List.pairwise_cons] at hpw
    refine ⟨P.map fun i => k - (i - i0), ?_, by simpa using hs, fun j hj => ?_⟩
    · rw [List.nodup_iff_pairwise_ne, List.pairwise_map]
      refine hpw.2.imp_of_mem fun {a b} ha hb hab => ?_
      have h1 := (hall a (List.mem_cons_of_mem _ ha)).2
      have h2 := (hall b (List.mem_cons_of_mem _ hb)).2
      have h3 := hpw.1 a ha
      have h4 := hpw.1 b hb
      omega
    · obtain ⟨i, hi, rfl⟩ := List.mem_map.1 hj
      have h1 := hall i (List.mem_cons_of_mem _ hi)
      have h2 := hall i0 (List.mem_cons_self ..)
      have h3 := hpw.1 i hi
      refine ⟨by omega, (eN_pos hto hq).2 ?_⟩
      obtain ⟨r1, _⟩ := hparts i0 h2.2
      obtain ⟨_, d1, r2, e1⟩ := hparts i h1.2
      have r3 : Run (ArcE l) q (i0 + (k - i)) p (g i0 + d1) := by
        refine Run.trans (k := f i0) r1 ?_
        rw [h2.1, ← h1.1]
        rw [fk] at *
        exact r2
      have h5 := hmono i0 i (by omega) h1.2
      exact ⟨p, g i0 + d1, by rw [show k - (i - i0) = i0 + (k - i) by omega]; exact r3, hp, hf, by omega⟩
theorem sN_stable {l : List St} (hto : ∀ q, q < l.length → ∀ a ∈ (el l q).2, ∃ t : Nat, a.2.2.2 = (t : Int) ∧ t < l.length) {n q c : Nat} (hq : q < l.length) {K k : Nat} (hK : l.length * (n + 1) ≤ K) (hk : K ≤ k) : min n (sN l k q c) = min n (sN l K q c) := by
  induction hk with
  | refl => rfl
  | @step k hk ih =>
    rw [sN_succ]
    by_cases h0 : 0 < eN l k q c
    · obtain ⟨D, h1, h2, h3⟩ := short_many hto hq (Nat.le_trans hK hk) h0
      have h4 : D.length ≤ sN l k q c := sum_many h1 h3
      rw [← ih]
      omega
    · rw [show eN l k q c = 0 by omega, Nat.add_zero, ih]
end Go.Proofs.Ytfpibdaedfilaaa.Pl
