/- The program: how far it is from the start, and to an end. -/
import Derived.Test.YtfpibdaedfilaaaHag
import Derived.Test.YtfpibdaedfilaaaHah
import Derived.Test.YtfpibdaedfilaaaHai
import Derived.Test.YtfpibdaedfilaaaHaj
import Derived.Test.YtfpibdaedfilaaaHaf
import Derived.Test.YtfpibdaedfilaaaHaa
import Derived.Test.YtfpibdaedfilaaaHab
import Derived.WalkKit
import Derived.ProofKit
import Derived.OpenShut
import Derived.Below
import Derived.SizedLaws
import Derived.Laws.AppendOwnNone
import Derived.BigQuiet
import Derived.Deep.QuietTactic
import Derived.Test.YtfpibdaedfilaaaHad
namespace Go.Proofs.Ytfpibdaedfilaaa.Wt
open Go.ChangeShapes Go.WideShapes Go.ChangeAt Go.RowKit
open Go.Proofs.Ytfpibdaedfilaaa.Pl
set_option linter.unusedVariables false
set_option linter.unusedSimpArgs false
def HeldDp (B : Nat) (z : Int) (v : Value) (w : World) : Prop := Blk w B #[.int .i64 z, v] 27
theorem HeldDp.two {B : Nat} {z : Int} {v : Value} {w : World} (h : HeldDp B z v w) : w.cell? ⟨B, 0, none⟩ = some (.int .i64 z) ∧ w.cell? ⟨B, 1, none⟩ = some v := ⟨h.cell 0 rfl, h.cell 1 rfl⟩
theorem tab_rows {w : World} {base g n : Nat} {rows : List Value} {F : List Ar} {f : Nat → List Ar} (h : Dw.WayTab w base g n rows f) : ∀ q, q < n → w.cell? ⟨g, q, none⟩ = some (el rows q) ∧ Row 2 Dw.encD w (el rows q) (stpW F f n q) := fun q hq => by
 rw [stpW_at hq]
 exact ⟨h.cell hq, Row.ofOwn Dw.encD_len (h.row q hq) rfl⟩
theorem nums_cells {w : World} {v : Value} {xs : List Int} (h : Nums w v xs) : ∃ a cap, v = .slice a xs.length cap ∧ ∀ j, j < xs.length → ∃ b off, a = some ⟨b, off, none⟩ ∧ w.cell? ⟨b, off + j, none⟩ = some (.int .i64 (el xs j)) := by
 by_cases hz : 0 < xs.length
 ·obtain ⟨b, off, cap, hv, hb, hc⟩ := Row.plain h (fun x => by rw [encI1_len]; omega) hz
  refine ⟨_, cap, hv, fun j hj => ⟨b, off, rfl, ?_⟩⟩
  have h9 := hc j hj 0 _ rfl
  rw [Nat.mul_one, Nat.add_zero] at h9
  exact h9
 ·obtain ⟨a, cap, hv⟩ := Row.sl h
  exact ⟨a, cap, hv, fun j hj => absurd hj (by omega)⟩
set_option maxRecDepth 100000 in
set_option maxHeartbeats 1600000 in
theorem endsP_ok (v : Value) (m : Mc) (w : World) (h : Mach w v m) (hok : okM m) (hr : faultM m = 0) :
  Calls Try.prog 22 #[v] w fun e w' => LstRes (LstAns (EndC m.2) m.2.length) w e w' := by
 obtain ⟨z, l⟩ := m
 obtain ⟨vs, rfl, hS⟩ := h
 obtain ⟨a, cap, rfl⟩ := hS.sl
 have HM : Hid (Mach w (.agg #[.int .i64 z, .slice a l.length cap]) (z, l)) := ⟨_, rfl, hS⟩
 have HK : Hid (okM (z, l)) := hok
 have HR : Hid (faultM (z, l) = 0) := hr
 have HZ : Hid (-1 ≤ z) := (right_parts hr).1.1
 have H60 : Hid (l.length ≤ 60) := (right_size hr).1
 have HSR := hidP (stpE_right (m := (z, l)) hr)
 have HPR := hidP (end_rch (m := (z, l)) hr)
 clear hS hok hr
 simp only at HSR HPR ⊢
 generalize hn : l.length = n at *
 have HN : Hid (l.length = n) := hn
 clear hn
 go_enter Try.func22, Try.ntmps22
 go_wp2_with (first
  | (go_at_call 30; (with_reducible refine (coreCheck_any _ (z, l) _ (HM.out.later (B := w.heap.size) (by go_grown) (Nat.le_refl _)) HK.out 0 HR.out).mono ?_); rintro e w1 ⟨rfl, hb⟩; obtain ⟨s1, b1, hb1⟩ := boxed hb (by simp); have K0 : HeldDp w.heap.size z (.slice a n cap) w1 := b1; have HB1 : Hid (Below w.heap.size w w1) := hb1; clear b1 hb1 hb))
 have K1 : HeldDp w.heap.size z (.slice a n cap) w1.drew := K0.drew
 refine region_anyL (HeldDp w.heap.size z (.slice a n cap)) 1000 (by kernel_rfl) ?_
 refine anyL_tk (i := 0) (v := ?v0_1) aZ0 (by kernel_rfl) ?y0_1 K1 ?r0_1
 case y0_1 => intro wx hx; obtain ⟨x0, x1⟩ := hx.two; go_simp; try (with_reducible rfl)
 simp only [Act.put, List.setIfInBounds_toArray, List.set_cons_zero, List.set_cons_succ]
 refine anyL_tk (i := 2) (v := ?v2_2) aZ2 (by kernel_rfl) ?y2_2 K1 ?r2_2
 case y2_2 => intro wx hx; obtain ⟨x0, x1⟩ := hx.two; go_simp; try (with_reducible rfl)
 simp only [Act.put, List.setIfInBounds_toArray, List.set_cons_zero, List.set_cons_succ]
 refine anyL_one (i := 1) aZ1 (by kernel_rfl) rfl (fun K hK => ?_)
 go_simp
 refine (Dw.ends_any z _ l _ (HM.out.later HB1.out.drew (Nat.le_refl _)) HR.out).mono ?_
 rintro e w2 ⟨v2, rfl, ho2, hb2⟩
 rw [HN.out] at ho2
 have K2 : HeldDp w.heap.size z (.slice a n cap) w2 := K1.below hb2 s1
 have HB2 : Hid (Below w.heap.size w w2) := HB1.out.trans ((Dw.below_undrewD hb2).mono HB1.out.size)
 have HO2 : Hid (Row 2 Dw.encD w2 v2 (endW l n)) := ho2
 have s2 : w1.heap.size ≤ w2.heap.size := hb2.size
 refine hK _ _ (.inr K2) ?_
 try simp only [Act.put, List.setIfInBounds_toArray, List.set_cons_zero, List.set_cons_succ]
 clear hb2 ho2 K0 K1
 refine anyL_one (i := 3) aZ3 (by kernel_rfl) rfl (fun K hK => ?_)
 go_simp
 refine (Dw.backward_any z _ l _ (HM.out.later HB2.out (Nat.le_refl _)) HR.out).mono ?_
 rintro e w3 ⟨rfl, ⟨rows, t3⟩, hb3⟩
 rw [HN.out] at t3
 have K3 : HeldDp w.heap.size z (.slice a n cap) w3 := K2.below hb3 (by omega)
 have HB3 : Hid (Below w.heap.size w w3) := HB2.out.trans (hb3.mono HB2.out.size)
 have HO3 : Hid (Row 2 Dw.encD w3 v2 (stpW (endW l n) (filS bkK l n) n n)) := by have h9 := HO2.out.later hb3 (Nat.le_refl _); show Row _ _ _ _ _; rw [stpW_src]; exact h9
 have HLA : Hid (Calls Try.prog 46 #[v2, .slice (some ⟨w2.heap.size + 1, 0, none⟩) n n] w3 fun e w' => LstRes (LstAns (EndC l) n) w3 e w') := Dw.least_any n (w2.heap.size + 1) v2 rows w3 H60.out HSR.out HPR.out HO3.out t3.blk.lt (tab_rows t3)
 refine hK _ _ (.inr K3) ?_
 try simp only [Act.put, List.setIfInBounds_toArray, List.set_cons_zero, List.set_cons_succ, HN.out]
 clear t3 K2
 refine anyL_one (i := 4) aZ4 (by kernel_rfl) rfl (fun K hK => ?_)
 go_simp
 refine HLA.out.mono ?_
 rintro e w4 ⟨v4, vs4, ec4, rfl, hA4, hN4, hb4⟩
 have K4 : HeldDp w.heap.size z (.slice a n cap) w4 := K3.below hb4 (by have := hb3.size; omega)
 have HB4 : Hid (Below w.heap.size w w4) := HB3.out.trans (hb4.mono HB3.out.size)
 have HA4 := hidP hA4
 have HN4 := hidP hN4
 refine hK _ _ (.inr K4) ?_
 try simp only [Act.put, List.setIfInBounds_toArray, List.set_cons_zero, List.set_cons_succ]
 clear hA4 hN4 hb4 hb3 K3
 refine anyL_tk (i := 5) (v := ?v5_3) aZ5 (by kernel_rfl) ?y5_3 K4 ?r5_3
 case y5_3 => intro wx hx; obtain ⟨x0, x1⟩ := hx.two; go_simp; try (with_reducible rfl)
 simp only [Act.put, List.setIfInBounds_toArray, List.set_cons_zero, List.set_cons_succ]
 refine anyL_tk (i := 6) (v := ?v6_4) aZ6 (by kernel_rfl) ?y6_4 K4 ?r6_4
 case y6_4 => intro wx hx; obtain ⟨x0, x1⟩ := hx.two; go_simp; try (with_reducible rfl)
 simp only [Act.put, List.setIfInBounds_toArray, List.set_cons_zero, List.set_cons_succ]
 refine anyL_one (i := 7) aZ7 (by kernel_rfl) rfl (fun K hK => ?_)
 go_simp
 refine hK _ _ (.inr K4) ?_
 try simp only [Act.put, List.setIfInBounds_toArray, List.set_cons_zero, List.set_cons_succ]
 refine anyL_one (i := 8) aZ8 (by kernel_rfl) rfl (fun K hK => ?_)
 go_simp
 refine hK _ _ (.inr K4) (anyL_done (by kernel_rfl) (NoPanic.normal ?_))
 try simp only [Act.put, List.setIfInBounds_toArray, List.set_cons_zero, List.set_cons_succ]
 clear K4
 go_wp2
 exact bodyPost_ret (v := .tuple #[v4, .int .i64 ec4]) (by simp [results, Try.results22, go_sem]) rfl ⟨_, vs4, ec4, rfl, HA4.out, HN4.out, HB4.out⟩
set_option maxRecDepth 100000 in
theorem endsP_bad (v : Value) (m : Mc) (w : World) (h : Mach w v m) (hok : okM m) (r : Int) (hr : faultM m = r) (h0 : ¬ r = 0) :
  Calls Try.prog 22 #[v] w fun e w' => e = .returned (.tuple #[.slice none 0 0, .int .i64 r]) ∧ Below w.heap.size w w' := by
 obtain ⟨z, l⟩ := m
 obtain ⟨vs, rfl, hS⟩ := h
 obtain ⟨a, cap, rfl⟩ := hS.sl
 have HM : Hid (Mach w (.agg #[.int .i64 z, .slice a l.length cap]) (z, l)) := ⟨_, rfl, hS⟩
 have HK : Hid (okM (z, l)) := hok
 have HR : Hid (faultM (z, l) = r) := hr
 clear hS hok hr
 simp only
 have hne : (r != 0) = true := by simpa using h0
 generalize l.length = n at *
 go_enter Try.func22, Try.ntmps22
 go_wp2_with (first
  | (go_at_call 30; (with_reducible refine (coreCheck_any _ (z, l) _ (HM.out.later (B := w.heap.size) (by go_grown) (Nat.le_refl _)) HK.out r HR.out).mono ?_); rintro e w1 ⟨rfl, hb⟩; obtain ⟨s1, b1, hb1⟩ := boxed hb (by simp); have HB1 : Hid (Below w.heap.size w w1) := hb1; clear b1 hb1 hb))
 go_ret2
 exact ⟨rfl, HB1.out⟩
theorem endsP_any (v : Value) (m : Mc) (w : World) (h : Mach w v m) (hok : okM m) :
  Calls Try.prog 22 #[v] w fun e w' => LstRes (DstAns m (EndC m.2)) w e w' := by
 by_cases hr : faultM m = 0
 ·refine (endsP_ok v m w h hok hr).mono ?_
  rintro e w' ⟨vr, vs, ec, rfl, h1, h2, h3⟩
  exact ⟨vr, vs, ec, rfl, .inr ⟨hr, h1⟩, h2, h3⟩
 ·refine (endsP_bad v m w h hok _ rfl hr).mono ?_
  rintro e w' ⟨rfl, h3⟩
  exact ⟨_, [], _, rfl, .inl ⟨hr, rfl, rfl⟩, .inl ⟨rfl, rfl⟩, h3⟩
theorem least_cases {z : Int} {l : List St} {vs : List Int} {ec : Int} {w : World} {v : Value} (hA : DstAns (z, l) (EndC l) vs ec) (hN : Nums w v vs) :
  (ec ≠ 0 ∧ (ec != 0) = true) ∨ (ec = 0 ∧ z = -1) ∨ (ec = 0 ∧ ∃ q : Nat, z = (q : Int) ∧ ((q : Int) == -1) = false ∧ ∃ b off cap, v = .slice (some ⟨b, off, none⟩) vs.length cap ∧ w.cell? ⟨b, off + q, none⟩ = some (.int .i64 (el vs q)) ∧ (q : Int) < ((vs.length : Nat) : Int)) := by
 by_cases he : ec = 0
 ·subst he
  by_cases hz : z = -1
  ·exact .inr (.inl ⟨rfl, hz⟩)
  ·have hln := hA.len
   simp only at hln
   obtain ⟨a1, cap1, hv, hcl⟩ := nums_cells hN
   obtain ⟨b2, off2, ha2, hcq⟩ := hcl z.toNat (by omega)
   subst ha2
   exact .inr (.inr ⟨rfl, z.toNat, by omega, by simp; omega, b2, off2, cap1, hv, hcq, by omega⟩)
 ·exact .inl ⟨he, by simpa using he⟩
set_option maxRecDepth 100000 in
set_option maxHeartbeats 1600000 in
theorem leastP_any (v : Value) (m : Mc) (w : World) (h : Mach w v m) (hok : okM m) :
  Calls Try.prog 12 #[v] w fun e w' => ∃ x ec : Int, e = .returned (.tuple #[.int .i64 x, .int .i64 ec]) ∧ LpaAns m x ec ∧ Below w.heap.size w w' := by
 obtain ⟨z, l⟩ := m
 obtain ⟨vs, rfl, hS⟩ := h
 obtain ⟨a, cap, rfl⟩ := hS.sl
 have HM : Hid (Mach w (.agg #[.int .i64 z, .slice a l.length cap]) (z, l)) := ⟨_, rfl, hS⟩
 have HK : Hid (okM (z, l)) := hok
 clear hS hok
 simp only
 generalize hn : l.length = n at *
 have HN : Hid (l.length = n) := hn
 clear hn
 have HCL : Hid (∀ W, Below w.heap.size w W → Calls Try.prog 22 #[.agg #[.int .i64 z, .slice a n cap]] W fun e w' => LstRes (DstAns (z, l) (EndC l)) W e w') := fun W hW => endsP_any _ (z, l) W (HM.out.later hW (Nat.le_refl _)) HK.out
 go_enter Try.func12, Try.ntmps12
 go_wp2_with (first
  | (go_at_call 22; ((with_reducible refine (HCL.out _ (by go_grown)).mono ?_); rintro e w1 ⟨v1, vs1, ec1, rfl, hA1, hN1, hb⟩; obtain ⟨s1, b1, hb1⟩ := boxed hb (by simp); have c0 := b1.cell 0 (v := .int .i64 z) rfl; have HB1 := hidP hb1; have HA1 := hidP hA1; have HN1 := hidP hN1; clear b1 hb1 hb hA1 hN1; rcases least_cases HA1.out HN1.out with ⟨he, heb⟩ | ⟨rfl, rfl⟩ | ⟨rfl, q, rfl, hzb, b2, off2, cap1, rfl, hcq, hqn⟩)))
 all_goals first
  | (go_ret2; exact ⟨_, _, rfl, ⟨vs1, ec1, HA1.out, .inl ⟨he, rfl, rfl⟩⟩, HB1.out⟩)
  | (go_ret2; exact ⟨_, _, rfl, ⟨vs1, 0, HA1.out, .inr ⟨rfl, rfl, by rw [if_pos (by show (-1 : Int) < 0; decide)]⟩⟩, HB1.out⟩)
  | (go_ret2; exact ⟨_, _, rfl, ⟨vs1, 0, HA1.out, .inr ⟨rfl, rfl, by rw [if_neg (by show ¬ (q : Int) < 0; omega)]; simp only [Int.toNat_natCast]⟩⟩, HB1.out⟩)
end Go.Proofs.Ytfpibdaedfilaaa.Wt
namespace Go.Proofs.Ytfpibdaedfilaaa.Pl
set_option linter.unusedVariables false
set_option linter.unusedSimpArgs false
def S (f : Nat → Nat) : Nat → Nat
 | 0 => 0
 | n + 1 => S f n + f n
theorem uni_el0 (a b : Mc) : el (uniM a b).2 0 = (1000000001, hopA a.1 1 0 ++ hopA b.1 (1 + (a.2.length : Int)) 0) := rfl
theorem uni_elA (a b : Mc) {q : Nat} (h : q < a.2.length) : el (uniM a b).2 (q + 1) = shS 1 (el a.2 q).1 [] (el a.2 q) := by
 show el (_ :: _) (q + 1) = _
 rw [el_succ, el_left (by simpa using h), el_map h]
theorem uni_elB (a b : Mc) {q : Nat} (h : q < b.2.length) : el (uniM a b).2 (a.2.length + 1 + q) = shS (1 + (a.2.length : Int)) (el b.2 q).1 [] (el b.2 q) := by
 show el (_ :: _) _ = _
 rw [show a.2.length + 1 + q = (a.2.length + q) + 1 by omega, el_succ, el_right (by simp), List.length_map, Nat.add_sub_cancel_left, el_map h]
inductive Stc (a : Mc) : List Int → List Int → Nat → Prop
 | nil : Stc a [] [] 0
 | snoc {x y x' y' : List Int} {c d : Nat} (h : Stc a x y c) (k : Costs a x' y' d) : Stc a (x ++ x') (y ++ y') (c + d)
def CstIs (P : Nat → Prop) (n : Int) : Prop := (n = 1000000001 ∧ ∀ c, ¬ P c) ∨ ∃ c : Nat, LeastP P c ∧ c ≤ 100000000 ∧ n = (c : Int)
theorem CstIs.eq {P Q : Nat → Prop} {a b : Int} (h : CstIs P a) (k : CstIs Q b) (e : ∀ c, P c ↔ Q c) : a = b := by
 have : P = Q := funext fun c => propext (e c)
 subst this
 rcases h with ⟨rfl, h⟩ | ⟨c, hc, _, rfl⟩ <;> rcases k with ⟨rfl, k⟩ | ⟨d, hd, _, rfl⟩
 ·rfl
 ·exact absurd hd.1 (h d)
 ·exact absurd hc.1 (k c)
 ·rw [hc.one hd]
theorem cst_of {P : Nat → Prop} {n e : Int} (h : WghAns P n e) (hb : ∀ c, P c → ∃ d, d ≤ 100000000 ∧ P d) : e = 0 ∧ CstIs P n := by
 rcases h with ⟨h, rfl, rfl⟩ | ⟨c, hc, h⟩
 ·exact ⟨rfl, .inl ⟨rfl, h⟩⟩
 ·obtain ⟨d, hd, hp⟩ := hb c hc.1
  have := hc.2 d hp
  rcases h with ⟨h1, rfl, rfl⟩ | ⟨h1, rfl, rfl⟩
  ·exact ⟨rfl, .inr ⟨c, hc, by omega, rfl⟩⟩
  ·omega
def CheapL (l : List St) : Prop := ∀ s ∈ l, (s.1 ≠ 1000000001 → s.1 ≤ 8000) ∧ ∀ a ∈ s.2, a.2.2.1 ≤ 8000
theorem made_cheap (r : Int × List (Int × Bool × List Ar)) (states : Nat) (full : Bool) : CheapL (madeM r states full).2 := fun s hs => by
 simp only [madeM, statesM, List.mem_map] at hs
 obtain ⟨q, _, rfl⟩ := hs
 split
 ·exact ⟨fun _ => by simp, fun a ha => absurd ha (by simp)⟩
 ·refine ⟨fun h => ?_, fun a ha => ?_⟩
  ·unfold stM at h ⊢
   simp only at h ⊢
   split
   ·have := pkR_bd (el r.2 q).1 10 (by omega); omega
   ·rename_i g; rw [if_neg g] at h; exact absurd rfl h
  ·simp only [stM, List.mem_map] at ha
   obtain ⟨e, _, rfl⟩ := ha
   unfold arM
   have := pkR_bd e.2.2.1 10 (by omega)
   simp only
   omega
theorem cheap_sh {l : List St} {d : Int} (h : CheapL l) : CheapL (l.map (fun s => shS d s.1 [] s)) := fun s hs => by
 rw [List.mem_map] at hs
 obtain ⟨t, ht, rfl⟩ := hs
 refine ⟨(h t ht).1, fun a ha => ?_⟩
 simp only [shS, List.append_nil, List.mem_map] at ha
 obtain ⟨b, hb, rfl⟩ := ha
 exact (h t ht).2 b hb
theorem cheap_hop (z d x : Int) (hx : x ≤ 8000) : ∀ a ∈ hopA z d x, a.2.2.1 ≤ 8000 := fun a ha => by
 unfold hopA at ha
 split at ha
 ·simp at ha
 ·simp at ha
  subst ha
  exact hx
theorem cheap_append {l r : List St} (h : CheapL l) (k : CheapL r) : CheapL (l ++ r) := fun s hs => by
 rcases List.mem_append.1 hs with g | g
 ·exact h s g
 ·exact k s g
theorem cheap_cons {s : St} {l : List St} (hs : (s.1 ≠ 1000000001 → s.1 ≤ 8000) ∧ ∀ a ∈ s.2, a.2.2.1 ≤ 8000) (h : CheapL l) : CheapL (s :: l) := fun t ht => by
 rcases List.mem_cons.1 ht with rfl | g
 ·exact hs
 ·exact h t g
theorem uni_cheap {a b : Mc} (ha : CheapL a.2) (hb : CheapL b.2) : CheapL (uniM a b).2 := by
 refine cheap_cons ⟨fun h => absurd rfl h, fun e he => ?_⟩ (cheap_append (cheap_sh ha) (cheap_sh hb))
 rcases List.mem_append.1 he with g | g
 ·exact cheap_hop _ _ _ (by omega) e g
 ·exact cheap_hop _ _ _ (by omega) e g
end Go.Proofs.Ytfpibdaedfilaaa.Pl
namespace Go.Proofs.Ytfpibdaedfilaaa.Wt
open Go.ChangeShapes Go.WideShapes Go.ChangeAt Go.RowKit
open Go.Proofs.Ytfpibdaedfilaaa.Pl
set_option linter.unusedVariables false
set_option linter.unusedSimpArgs false
theorem right_ok {m : Mc} (h : faultM m = 0) : okM m := by
 have h1 := right_size (z := m.1) (l := m.2) h
 exact small_ok (by omega) (by omega)
theorem arcN_four : ∀ l : List St, (∀ s ∈ l, s.2.length ≤ 4) → arcN l ≤ 4 * l.length
  | [], _ => by simp [arcN]
  | s :: l, h => by
    have h0 := h s (by simp)
    have := arcN_four l (fun t ht => h t (by simp [ht]))
    simp only [arcN, List.length_cons]
    omega
theorem made_facts (r : Int × List (Int × Bool × List Ar)) (k : Nat) (h0 : 0 < k) (h8 : k ≤ 8) : faultM (madeM r k false) = 0 ∧ CheapL (madeM r k false).2 ∧ (madeM r k false).2.length ≤ k ∧ arcN (madeM r k false).2 ≤ 4 * k ∧ 0 < (madeM r k false).2.length := by
 have hlen : (madeM r k false).2.length = sizeM r k := statesM_length _ _ _
 have hn : 0 < sizeM r k ∧ sizeM r k ≤ k := by unfold sizeM; omega
 refine ⟨madeM_right r k h0 h8 false, made_cheap r k false, by omega, ?_, by omega⟩
 have := arcN_four (madeM r k false).2 (fun s hs => by
  simp only [madeM, statesM, List.mem_map] at hs
  obtain ⟨q, _, rfl⟩ := hs
  split
  ·simp
  ·exact stM_few _ _ _)
 omega
theorem small_size {m : Mc} (h1 : m.2.length ≤ 60) (h2 : arcN m.2 ≤ 400) : sizeB m = true := by simp [sizeB, h1, h2]
theorem two_uni {a b : Mc} (fa : faultM a = 0) (fb : faultM b = 0) (h1 : a.2.length + b.2.length ≤ 59) (h2 : arcN a.2 + arcN b.2 ≤ 398) : ratM a b (uniM a b) = uniM a b ∧ ratE a b (uniM a b) = 0 ∧ faultM (uniM a b) = 0 := by
 have e1 := uniM_len a b
 have e2 := uniM_arcs a b
 have hs : sizeB (uniM a b) = true := small_size (by omega) (by omega)
 refine ⟨?_, ?_, uniM_right fa fb hs⟩
 ·unfold ratM fitM; rw [if_neg (by simp [fa]), if_neg (by simp [fb]), if_pos hs]
 ·unfold ratE fitE; rw [if_neg (by simp [fa]), if_neg (by simp [fb]), if_pos hs]
theorem start_lt {m : Mc} (h : faultM m = 0) : m.1 < (m.2.length : Int) := by
 have := (right_parts h).1.2
 omega
end Go.Proofs.Ytfpibdaedfilaaa.Wt
namespace Go.Proofs.Ytfpibdaedfilaaa.Pl
set_option linter.unusedVariables false
set_option linter.unusedSimpArgs false
theorem arcE_cheap {m : Mc} (hc : CheapL m.2) {k w j : Nat} (e : ArcE m.2 k w j) : w ≤ 8000 := by
 have hk := arcE_in e
 obtain ⟨a, ha, _, rfl⟩ := e
 have := (hc _ (el_mem hk)).2 a ha
 omega
theorem run_cheap {m : Mc} (hr : faultM m = 0) (hc : CheapL m.2) {s n q c : Nat} (hs : s < m.2.length) (h : Run (ArcE m.2) s n q c) : ∃ n' d, d ≤ 480000 ∧ d ≤ c ∧ Run (ArcE m.2) s n' q d := by
 have h60 := (right_size (z := m.1) (l := m.2) hr).1
 obtain ⟨n', d, hn, hd, h'⟩ := h.cheap hs (fun k w j e => (arcE_small hr e).1)
 have h1 := h'.cost (W := 8000) (fun k w j e => arcE_cheap hc e)
 have h2 : n' * 8000 ≤ 60 * 8000 := Nat.mul_le_mul_right _ (by omega)
 exact ⟨n', d, by omega, hd, h'⟩
theorem end_bound {m : Mc} (hr : faultM m = 0) (hc : CheapL m.2) {q c : Nat} (hq : q < m.2.length) (h : EndC m.2 q c) : ∃ d, d ≤ 100000000 ∧ EndC m.2 q d := by
 obtain ⟨n, p, d, h, hp, hf, rfl⟩ := h
 obtain ⟨n', d', hd, _, h'⟩ := run_cheap hr hc hq h
 have := (hc _ (el_mem hp)).1 hf
 exact ⟨d' + (el m.2 p).1.toNat, by omega, n', p, d', h', hp, hf, rfl⟩
theorem dst_cst {m : Mc} {P : Nat → Nat → Prop} {vs : List Int} {ec : Int} (hr : faultM m = 0) (hb : ∀ q, q < m.2.length → ∀ c, P q c → ∃ d, d ≤ 100000000 ∧ P q d) (h : DstAns m P vs ec) : ec = 0 ∧ vs.length = m.2.length ∧ ∀ q, q < m.2.length → CstIs (P q) (el vs q) := by
 rcases h with ⟨h, _⟩ | ⟨_, ⟨h1, h2, h3⟩ | ⟨_, _, q, hq, h4⟩⟩
 ·exact absurd hr h
 ·exact ⟨h1, h2, fun q hq => (cst_of (h3 q hq) (hb q hq)).2⟩
 ·exact absurd (cst_of h4 (hb q hq)).1 (by decide)
theorem end_cst {m : Mc} {vs : List Int} {ec : Int} (hr : faultM m = 0) (hc : CheapL m.2) (h : DstAns m (EndC m.2) vs ec) : ec = 0 ∧ vs.length = m.2.length ∧ ∀ q, q < m.2.length → CstIs (EndC m.2 q) (el vs q) := dst_cst hr (fun q hq c => end_bound hr hc hq) h
theorem lpa_cst {m : Mc} {x ec : Int} (hr : faultM m = 0) (hc : CheapL m.2) (hz : 0 ≤ m.1) (h : LpaAns m x ec) : ec = 0 ∧ CstIs (EndC m.2 m.1.toNat) x := by
 obtain ⟨vs, f, h1, h2⟩ := h
 obtain ⟨rfl, h3, h4⟩ := end_cst hr hc h1
 rcases h2 with ⟨h2, _⟩ | ⟨_, h5, h6⟩
 ·exact absurd rfl h2
 ·rw [if_neg (by omega)] at h6
  rw [h6]
  exact ⟨h5, h4 _ (by have := (right_parts hr).1; omega)⟩
end Go.Proofs.Ytfpibdaedfilaaa.Pl
namespace Go.Proofs.Ytfpibdaedfilaaa.Wt
open Go.ChangeShapes Go.WideShapes Go.ChangeAt Go.RowKit
open Go.Proofs.Ytfpibdaedfilaaa.Pl
set_option linter.unusedVariables false
set_option linter.unusedSimpArgs false
theorem least_cst (v : Value) (m : Mc) (w : World) (h : Mach w v m) (hr : faultM m = 0) (hc : CheapL m.2) (hz : 0 ≤ m.1) : Calls Try.prog 12 #[v] w fun e w' => ∃ x : Int, e = .returned (.tuple #[.int .i64 x, .int .i64 0]) ∧ CstIs (EndC m.2 m.1.toNat) x ∧ Below w.heap.size w w' := by
 refine (leastP_any v m w h (right_ok hr)).mono ?_
 rintro e w' ⟨x, ec, rfl, hq, hb⟩
 obtain ⟨rfl, h1⟩ := lpa_cst hr hc hz hq
 exact ⟨x, rfl, h1, hb⟩
theorem made_start (r : Int × List (Int × Bool × List Ar)) (k : Nat) (full : Bool) (h0 : 0 < k) : 0 ≤ (madeM r k full).1 := by
 show 0 ≤ pkR r.1 (sizeM r k)
 have hs : 0 < sizeM r k := by
  unfold sizeM
  omega
 exact (pkR_bd r.1 _ (by omega)).1
end Go.Proofs.Ytfpibdaedfilaaa.Wt
namespace Go.Proofs.Ytfpibdaedfilaaa.Pl
section
variable {α : Type} [Inhabited α]
theorem el_set {l : List α} {q j : Nat} {s : α} (hj : j < l.length) : el (l.set q s) j = if q = j then s else el l j := by
 rw [el_get (by simpa using hj), el_get hj, List.getElem_set]
end
end Go.Proofs.Ytfpibdaedfilaaa.Pl
namespace Go.Proofs.Ytfpibdaedfilaaa.Wt
open Go.ChangeShapes Go.WideShapes Go.ChangeAt Go.RowKit
open Go.Proofs.Ytfpibdaedfilaaa.Pl
set_option linter.unusedVariables false
theorem flat_set {vs : List (Int × Value)} {q : Nat} (hq : q < vs.length) (va : Value) : (vs.flatMap encS).set (q * 2 + 1) va = (vs.set q ((el vs q).1, va)).flatMap encS := by
 have hl : (vs.flatMap encS).length = vs.length * 2 := flat_length encS_len vs
 apply List.ext_getElem?
 intro t
 by_cases ht : t < vs.length * 2
 ·have he : t / 2 * 2 + t % 2 = t := by omega
  have h1 := flat_at encS_len vs (t / 2) (by omega) (t % 2) (by omega)
  have h2 := flat_at encS_len (vs.set q ((el vs q).1, va)) (t / 2) (by simp; omega) (t % 2) (by omega)
  rw [he] at h1 h2
  rw [h2, List.getElem?_set, Pl.el_set (by omega)]
  by_cases hq2 : q = t / 2
  ·rw [if_pos hq2]
   have h01 : t = q * 2 ∨ t = q * 2 + 1 := by omega
   rcases h01 with h | h
   ·have e0 : t % 2 = 0 := by omega
    rw [if_neg (by omega), h1, ← hq2, e0]; rfl
   ·have e0 : t % 2 = 1 := by omega
    rw [if_pos h.symm, if_pos (by omega), e0]; rfl
  ·rw [if_neg hq2, if_neg (by omega), h1]
 ·rw [List.getElem?_eq_none (by rw [List.length_set, hl]; omega), List.getElem?_eq_none (by rw [flat_length encS_len, List.length_set]; omega)]
end Go.Proofs.Ytfpibdaedfilaaa.Wt
namespace Go.Proofs.Ytfpibdaedfilaaa.Wt
open Go.ChangeShapes Go.WideShapes Go.ChangeAt Go.RowKit
open Go.Proofs.Ytfpibdaedfilaaa.Pl
set_option linter.unusedVariables false
set_option linter.unusedSimpArgs false
def Apt (a b : Value) : Prop := a.ownBlock = none ∨ a.ownBlock ≠ b.ownBlock
theorem Apt.symm {a b : Value} (h : Apt a b) : Apt b a := by
 rcases h with h | h
 ·unfold Apt; rw [h]; rcases b.ownBlock with _ | _ <;> simp
 ·exact .inr (Ne.symm h)
theorem Apt.near {w : World} {a b b' : Value} {base : Nat} {e : TypeId} {s n : Nat} {xs : List Value} (h : Apt a b) (ho : w.ownsRow base e s a n xs) (hn : Near w b.ownBlock b') : Apt a b' := by
 rcases hn with e | ⟨c, e, hc⟩
 ·unfold Apt at *; rw [e]; exact h
 ·rcases ha : a.ownBlock with _ | k
  ·exact .inl ha
  ·refine .inr ?_
   rw [ha, e]
   have := (ho.lt k ha).2
   intro e2; simp at e2; omega
def OwnApt (w : World) (base : Nat) (v : Value) (l : List St) : Prop :=
 ∃ vs : List (Int × Value), w.ownsRow base 56 2 v vs.length (vs.flatMap encS) ∧ vs.length = l.length ∧ (∀ j, j < l.length → (el vs j).1 = (el l j).1 ∧ w.ownsRow base 58 4 (el vs j).2 (el l j).2.length ((el l j).2.flatMap encA)) ∧ ∀ i j, i < l.length → j < l.length → i ≠ j → Apt (el vs i).2 (el vs j).2
theorem OwnApt.own {w : World} {base : Nat} {v : Value} {l : List St} (h : OwnApt w base v l) : OwnSts w base v l := by
 obtain ⟨vs, h1, h2, h3, _⟩ := h
 exact ⟨vs, h1, h2, h3⟩
theorem OwnApt.later {w w' : World} {base : Nat} {v : Value} {l : List St} (h : OwnApt w base v l) (hb : Below w.heap.size w w') : OwnApt w' base v l := by
 obtain ⟨vs, h1, h2, h3, h4⟩ := h
 exact ⟨vs, ownBelow h1 hb, h2, fun j hj => ⟨(h3 j hj).1, ownBelow (h3 j hj).2 hb⟩, h4⟩
theorem OwnApt.setCell {w : World} {base : Nat} {v : Value} {l : List St} (h : OwnApt w base v l) {a : Addr} (ha : a.block < base) (u : Value) : OwnApt (w.setCell a u) base v l := by
 obtain ⟨vs, h1, h2, h3, h4⟩ := h
 exact ⟨vs, ownsRow_setCell_below h1 ha u, h2, fun j hj => ⟨(h3 j hj).1, ownsRow_setCell_below (h3 j hj).2 ha u⟩, h4⟩
theorem OwnApt.sl {w : World} {base : Nat} {v : Value} {l : List St} (h : OwnApt w base v l) : ∃ a c, v = .slice a l.length c := by
 obtain ⟨vs, h1, h2, _⟩ := h
 obtain ⟨a, c, hv⟩ := own_sl h1
 exact ⟨a, c, by rw [hv, h2]⟩
end Go.Proofs.Ytfpibdaedfilaaa.Wt
