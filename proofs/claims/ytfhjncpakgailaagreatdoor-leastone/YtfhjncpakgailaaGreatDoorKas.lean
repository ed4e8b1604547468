/- What a machine has: core.Count, and the reference's counts. -/
import Derived.Test.YtfhjncpakgailaaGreatDoorKah
import Derived.Test.YtfhjncpakgailaaGreatDoorKab
import Derived.Test.YtfhjncpakgailaaGreatDoorKan
import Derived.Test.YtfhjncpakgailaaGreatDoorKag
namespace Go.Proofs.YtfhjncpakgailaaGreatDoor.Wt
open Go.ChangeShapes Go.WideShapes Go.ChangeAt Go.RowKit
open Go.Proofs.YtfhjncpakgailaaGreatDoor.Pl
set_option linter.unusedVariables false
set_option linter.unusedSimpArgs false
theorem finalsOf_any (v : Value) (m : Mc) (w : World) (h : Mach w v m) (h60 : m.2.length ≤ 60) (q : Nat) (hq : finN m.2 = q) :
  Calls Tryz.prog 47 #[v] w fun e w' => e = .returned (.int .i64 q) ∧ Below w.heap.size w w' := by
 subst hq
 obtain ⟨z, l⟩ := m
 obtain ⟨vs, rfl, hS⟩ := h
 obtain ⟨a, cap, rfl, hc⟩ := hS.get
 have hA := finN_take_le l
 clear hS
 simp only at h60 ⊢
 have HX : Hid (∀ k, finN (l.take k) ≤ l.length) := hA
 have HC : Hid (∀ j, j < l.length → ∃ b off va, a = some ⟨b, off, none⟩ ∧ b < w.heap.size ∧ w.cell? ⟨b, off + j * 2, none⟩ = some (.int .i64 (el l j).1) ∧ w.cell? ⟨b, off + j * 2 + 1, none⟩ = some va ∧ Arcs w va (el l j).2) := hc
 clear hA hc
 generalize hn : l.length = n at *
 go_enter Tryz.func47, Tryz.ntmps47
 go_wp2
 go_loopw [3, 9] (fun s i wr => ∃ k : Nat, k ≤ n ∧ i = .int .i64 k ∧ s = .int .i64 (finN (l.take k)) ∧ Below w.heap.size w wr) (fun _ i _ => n - (intOf i).toNat)
 case atStart => exact ⟨0, Nat.zero_le _, rfl, rfl, by go_grown⟩
 case round =>
  obtain ⟨k, hk, rfl, rfl, hb⟩ := hrel
  by_cases hlt : k < n
  ·obtain ⟨b, off, va, rfl, hbl, g0, g1, gA⟩ := HC.out k hlt
   obtain ⟨a2, cap2, rfl⟩ := gA.sl
   have g0 := (hb.cell (p := ⟨b, off + k * 2, none⟩) hbl).trans g0
   have g1 := (hb.cell (p := ⟨b, off + k * 2 + 1, none⟩) hbl).trans g1
   have h1 := HX.out k
   have HE : Hid (finN (l.take (k + 1)) = finN (l.take k) + (if (el l k).1 = 1000000001 then 0 else 1)) := finN_take (by omega)
   clear gA
   generalize finN (l.take k) = s at *
   generalize (el l k).2.length = q at *
   generalize (el l k).1 = f at *
   by_cases hf : f = 1000000001
   ·have HE2 : Hid (finN (l.take (k + 1)) = s) := by have h := HE.out; rw [if_pos hf] at h; exact h
    subst hf
    go_wp2
    go_roundw
    case rel => exact ⟨k + 1, by omega, by go_num, by rw [HE2.out], hb.alloc hb.size _⟩
    case measure => simp [intOf]; omega
   ·have HE2 : Hid (finN (l.take (k + 1)) = s + 1) := by have h := HE.out; rw [if_neg hf] at h; exact h
    have hne : (f != 1000000001) = true := by simpa using hf
    go_wp2
    go_roundw
    case rel => exact ⟨k + 1, by omega, by go_num, by rw [HE2.out]; go_num, hb.alloc hb.size _⟩
    case measure => simp [intOf]; omega
  ·have hke : k = n := by omega
   go_wp2
   go_ret
   refine ⟨ret_intK ?_, hb⟩
   rw [hke, ← hn, List.take_length]
theorem boxed2 {w w1 : World} {c0 c1 : Array Value} {t0 t1 : TypeId} {n : Nat} (hb : Below n ((w.alloc (.cells c0 t0)).alloc (.cells c1 t1)) w1) (hn : n = w.heap.size + 2) : w.heap.size + 2 ≤ w1.heap.size ∧ Blk w1 w.heap.size c0 t0 ∧ Blk w1 (w.heap.size + 1) c1 t1 ∧ Below w.heap.size w w1 := by
 subst hn
 have h := hb.size
 simp only [World.size_alloc] at h
 have k1 := Blk.made (w.alloc (.cells c0 t0)) c1 t1
 simp only [World.size_alloc] at k1
 exact ⟨h, ((Blk.made w c0 t0).alloc _).below hb (by omega), k1.below hb (by omega), (((Below.refl _ _).alloc (Nat.le_refl _) _).alloc (by simp) _).trans (hb.mono (by omega))⟩
theorem below_undrew {B : Nat} {w w' : World} (h : Below B w.drew w') : Below B w w' := ⟨h.os, h.tape, h.output, h.size, h.block⟩
def HeldN (B : Nat) (z : Int) (v : Value) (w : World) : Prop := w.cell? ⟨B, 0, none⟩ = some (.int .i64 z) ∧ w.cell? ⟨B, 1, none⟩ = some v
set_option maxRecDepth 100000 in
set_option maxHeartbeats 1000000 in
theorem count_any (v : Value) (m : Mc) (w : World) (h : Mach w v m) (hok : okM m) (r c0 c1 c2 : Int) (hr : faultM m = r) (hcs : if r = 0 then c0 = m.2.length ∧ c1 = arcN m.2 ∧ c2 = finN m.2 else c0 = 0 ∧ c1 = 0 ∧ c2 = 0) :
  Calls Tryz.prog 18 #[v] w fun e w' => e = .returned (.tuple #[.agg #[.int .i64 c0, .int .i64 c1, .int .i64 c2], .int .i64 r]) ∧ Below w.heap.size w w' := by
 obtain ⟨z, l⟩ := m
 obtain ⟨vs, rfl, hS⟩ := h
 obtain ⟨a, cap, rfl⟩ := hS.sl
 have HM : Hid (Mach w (.agg #[.int .i64 z, .slice a l.length cap]) (z, l)) := ⟨_, rfl, hS⟩
 have HK : Hid (okM (z, l)) := hok
 have HR : Hid (faultM (z, l) = r) := hr
 have hl := hok.1
 simp only at hcs hl ⊢
 clear hS hok
 by_cases hr0 : r = 0
 ·rw [if_pos hr0] at hcs
  obtain ⟨rfl, rfl, rfl⟩ := hcs
  subst hr0
  have hsz := right_size hr
  have H60 : Hid (l.length ≤ 60) := hsz.1
  clear hr hsz
  generalize hq : arcN l = q at *
  have HQ : Hid (arcN l = q) := hq
  generalize hp : finN l = p at *
  have HP : Hid (finN l = p) := hp
  clear hq hp
  generalize hn : l.length = n at *
  have HN : Hid (l.length = n) := hn
  clear hn
  go_enter Tryz.func18, Tryz.ntmps18
  go_wp2_with (first
   | (go_at_call 28; (with_reducible refine (coreCheck_any _ (z, l) _ (HM.out.later (B := w.heap.size) (by go_grown) (Nat.le_refl _)) HK.out _ HR.out).mono ?_); rintro e w1 ⟨rfl, hb⟩; obtain ⟨s1, k0, k1, hb1⟩ := boxed2 hb (by simp); have HB1 : Hid (Below w.heap.size w w1) := hb1; have K0 : Hid (Blk w1 w.heap.size #[.int .i64 z, .slice a n cap] 29) := k0; have K1 : Hid (Blk w1 (w.heap.size + 1) #[.int .i64 0, .int .i64 0, .int .i64 0] 48) := k1; clear hb hb1 k0 k1))
  refine region_anyL (HeldN w.heap.size z (.slice a n cap)) 1000 (by kernel_rfl) ?_
  have HS : HeldN w.heap.size z (.slice a n cap) w1.drew := ⟨K0.out.cell 0 rfl, K0.out.cell 1 rfl⟩
  refine anyL_tk (i := 0) (v := ?v0_1) aZ0 (by kernel_rfl) ?y0_1 HS ?r0_1
  case y0_1 => intro wx hx; obtain ⟨h1, h2⟩ := hx; go_simp; try (with_reducible rfl)
  simp only [Act.put, List.setIfInBounds_toArray, List.set_cons_zero, List.set_cons_succ]
  refine anyL_tk (i := 1) (v := ?v1_2) aZ1 (by kernel_rfl) ?y1_2 HS ?r1_2
  case y1_2 => intro wx hx; obtain ⟨h1, h2⟩ := hx; go_simp; try (with_reducible rfl)
  simp only [Act.put, List.setIfInBounds_toArray, List.set_cons_zero, List.set_cons_succ]
  refine anyL_tk (i := 2) (v := ?v2_3) aZ2 (by kernel_rfl) ?y2_3 HS ?r2_3
  case y2_3 => intro wx hx; obtain ⟨h1, h2⟩ := hx; go_simp; try (with_reducible rfl)
  simp only [Act.put, List.setIfInBounds_toArray, List.set_cons_zero, List.set_cons_succ]
  refine anyL_tk (i := 3) (v := ?v3_4) aZ3 (by kernel_rfl) ?y3_4 HS ?r3_4
  case y3_4 => intro wx hx; obtain ⟨h1, h2⟩ := hx; go_simp; try (with_reducible rfl)
  simp only [Act.put, List.setIfInBounds_toArray, List.set_cons_zero, List.set_cons_succ]
  refine anyL_tk (i := 5) (v := ?v5_5) aZ5 (by kernel_rfl) ?y5_5 HS ?r5_5
  case y5_5 => intro wx hx; obtain ⟨h1, h2⟩ := hx; go_simp; try (with_reducible rfl)
  simp only [Act.put, List.setIfInBounds_toArray, List.set_cons_zero, List.set_cons_succ]
  refine anyL_one (i := 4) aZ4 (by kernel_rfl) rfl (fun K hK => ?_)
  go_simp
  refine (arcsOf_any _ (z, l) _ (HM.out.later HB1.out.drew (Nat.le_refl _)) HK.out (by show l.length ≤ 60; rw [HN.out]; exact H60.out) q HQ.out).mono ?_
  rintro e w2 ⟨rfl, hb⟩
  have HB2 : Below w1.heap.size w1 w2 := below_undrew hb
  have HS2 : HeldN w.heap.size z (.slice a n cap) w2 := ⟨(K0.out.below HB2 (by omega)).cell 0 rfl, (K0.out.below HB2 (by omega)).cell 1 rfl⟩
  refine hK _ _ (.inr HS2) ?_
  try simp only [Act.put, List.setIfInBounds_toArray, List.set_cons_zero, List.set_cons_succ]
  refine anyL_one (i := 6) aZ6 (by kernel_rfl) rfl (fun K hK => ?_)
  go_simp
  refine (finalsOf_any _ (z, l) _ (HM.out.later (HB1.out.trans (HB2.mono HB1.out.size)) (Nat.le_refl _)) (by show l.length ≤ 60; rw [HN.out]; exact H60.out) p HP.out).mono ?_
  rintro e w3 ⟨rfl, hb3⟩
  have HB3 : Below w1.heap.size w1 w3 := HB2.trans (hb3.mono HB2.size)
  have HS3 : HeldN w.heap.size z (.slice a n cap) w3 := ⟨(K0.out.below HB3 (by omega)).cell 0 rfl, (K0.out.below HB3 (by omega)).cell 1 rfl⟩
  have K3 := K1.out.below HB3 (by omega)
  have e0 := K3.cell 0 (v := .int .i64 0) rfl
  have e1 := K3.cell 1 (v := .int .i64 0) rfl
  have e2 := K3.cell 2 (v := .int .i64 0) rfl
  have f0 := K3.fz 0
  have f1 := K3.fz 1
  have f2 := K3.fz 2
  refine hK _ _ (.inr HS3) ?_
  try simp only [Act.put, List.setIfInBounds_toArray, List.set_cons_zero, List.set_cons_succ]
  refine anyL_tk (i := 7) (v := ?v7_6) aZ7 (by kernel_rfl) ?y7_6 HS3 ?r7_6
  case y7_6 => intro wx hx; obtain ⟨h1, h2⟩ := hx; go_simp; try (with_reducible rfl)
  simp only [Act.put, List.setIfInBounds_toArray, List.set_cons_zero, List.set_cons_succ]
  refine anyL_one (i := 8) aZ8 (by kernel_rfl) rfl (fun K hK => ?_)
  have q0 := HS3.1
  have q1 := HS3.2
  have HB4 : Hid (Below w.heap.size w w3) := HB1.out.trans (HB3.mono HB1.out.size)
  go_simp
  refine hK _ _ (.inr ⟨by go_cell, by go_cell⟩) ?_
  try simp only [Act.put, List.setIfInBounds_toArray, List.set_cons_zero, List.set_cons_succ]
  refine anyL_one (i := 9) aZ9 (by kernel_rfl) rfl (fun K hK => ?_)
  go_simp
  refine hK _ _ (.inr ⟨by go_cell, by go_cell⟩) (anyL_done (by kernel_rfl) (NoPanic.normal ?_))
  try simp only [Act.put, List.setIfInBounds_toArray, List.set_cons_zero, List.set_cons_succ]
  go_wp2
  exact bodyPost_ret (v := .tuple #[.agg #[.int .i64 n, .int .i64 q, .int .i64 p], .int .i64 0]) (by simp [results, Tryz.results18, go_sem, *]) rfl ⟨rfl, by (have h := HB4.out); go_grown⟩
 ·rw [if_neg hr0] at hcs
  obtain ⟨rfl, rfl, rfl⟩ := hcs
  have hne : (r != 0) = true := by simpa using hr0
  clear hr
  go_enter Tryz.func18, Tryz.ntmps18
  go_wp2_with (first
   | (go_at_call 28; (with_reducible refine (coreCheck_any _ (z, l) _ (HM.out.later (B := w.heap.size) (by go_grown) (Nat.le_refl _)) HK.out _ HR.out).mono ?_); rintro e w1 ⟨rfl, hb⟩; obtain ⟨s1, k0, k1, hb1⟩ := boxed2 hb (by simp); have HB1 : Hid (Below w.heap.size w w1) := hb1; have e0 := k1.cell 0 (v := .int .i64 0) rfl; have e1 := k1.cell 1 (v := .int .i64 0) rfl; have e2 := k1.cell 2 (v := .int .i64 0) rfl; have f0 := k1.fz 0; have f1 := k1.fz 1; have f2 := k1.fz 2; clear hb hb1 k0 k1))
  exact bodyPost_ret (v := .tuple #[.agg #[.int .i64 0, .int .i64 0, .int .i64 0], .int .i64 r]) (by simp [results, Tryz.results18, go_sem, *]) rfl ⟨rfl, by (have h := HB1.out); go_grown⟩
theorem wrapK {n : Int} (h0 : -9223372036854775808 ≤ n) (h1 : n ≤ 9223372036854775807) : IntKind.i64.wrap n = n := by
 have h64 : IntKind.i64.wrap n = if n % 18446744073709551616 ≥ 9223372036854775808 then n % 18446744073709551616 - 18446744073709551616 else n % 18446744073709551616 := by
  simp [IntKind.wrap, IntKind.bits, IntKind.signed]
 rw [h64]
 split <;> omega
def cells4 (w : World) (b o : Nat) (a : Ar) : Prop := w.cell? ⟨b, o, none⟩ = some (.int .i64 a.1) ∧ w.cell? ⟨b, o + 1, none⟩ = some (.int .i64 a.2.1) ∧ w.cell? ⟨b, o + 2, none⟩ = some (.int .i64 a.2.2.1) ∧ w.cell? ⟨b, o + 3, none⟩ = some (.int .i64 a.2.2.2)
theorem cells4.later {w w' : World} {b o B : Nat} {a : Ar} (h : cells4 w b o a) (hb : Below B w w') (hB : b < B) : cells4 w' b o a := ⟨(hb.cell hB).trans h.1, (hb.cell hB).trans h.2.1, (hb.cell hB).trans h.2.2.1, (hb.cell hB).trans h.2.2.2⟩
theorem below_undrewJ {B : Nat} {w w' : World} (h : Below B w.drew w') : Below B w w' := ⟨h.os, h.tape, h.output, h.size, h.block⟩
def HeldJ (b off d : Nat) (x y : Ar) (w : World) : Prop := cells4 w b (off + (d + 1) * 4) x ∧ cells4 w b (off + d * 4) y
set_option maxRecDepth 100000 in
set_option maxHeartbeats 1000000 in
theorem isSorted_any (va : Value) (l : List Ar) (w : World) (h : Arcs w va l) (hl : l.length ≤ 4398046511104) (r : Bool) (hr : sortB l = r) :
  Calls Tryz.prog 60 #[va, .func (.func 61) #[] #[]] w fun e w' => e = .returned (.bool r) ∧ Below w.heap.size w w' := by
 obtain ⟨a, cap, rfl, hc⟩ := h.get
 have eg : ∀ ar W, (callFunc 61 ar).run Tryz.prog W = .ok (.enter 61 ar) W := enters_of Tryz.func61 (by kernel_rfl) rfl
 by_cases hz : 0 < l.length
 ·have HC : Hid (∀ j, j < l.length → ∃ b off, a = some ⟨b, off, none⟩ ∧ b < w.heap.size ∧ cells4 w b (off + j * 4) (el l j)) := hc
  have HR : Hid (sortB l = r) := hr
  clear h hc hr
  generalize hn : l.length = n at *
  have HN : Hid (l.length = n) := hn
  clear hn
  have hn1 : (n : Int) - 1 = ((n - 1 : Nat) : Int) := by omega
  have hn0 : n - 1 < n := by omega
  go_enter Tryz.func60, Tryz.ntmps60
  go_wp2
  go_loopw [5] (fun i wr => ∃ c : Nat, c < n ∧ i = .int .i64 c ∧ Hid (∀ j, c ≤ j → j + 1 < n → aheadB (el l (j + 1)) (el l j) = false) ∧ Below w.heap.size w wr) (fun i _ => (intOf i).toNat)
  case atStart => exact ⟨n - 1, hn0, by rw [← hn1], (fun j h1 h2 => by omega), Below.refl _ _⟩
  case round =>
   obtain ⟨c, hcn, rfl, hok, hb⟩ := hrel
   by_cases hc0 : 0 < c
   ·obtain ⟨d, rfl⟩ : ∃ d, c = d + 1 := ⟨c - 1, by omega⟩
    obtain ⟨b, off, rfl, hbl, g1⟩ := HC.out (d + 1) hcn
    obtain ⟨b2, off2, he, _, g2⟩ := HC.out d (by omega)
    injection he with he
    injection he with he1 he2 _
    subst he1 he2
    have HS : Hid (HeldJ b off d (el l (d + 1)) (el l d) wr) := ⟨g1.later hb hbl, g2.later hb hbl⟩
    have HS0 : HeldJ b off d (el l (d + 1)) (el l d) wr.drew := HS.out
    have k1 : (0 : Int) ≤ (d : Int) + 1 := by omega
    have k2 : (d : Int) + 1 < (n : Int) := by omega
    have k3 : (0 : Int) ≤ (d : Int) := by omega
    have k4 : (d : Int) < (n : Int) := by omega
    have k5 : IntKind.i64.wrap (d : Int) = (d : Int) := wrapK (by omega) (by omega)
    clear g1 g2
    generalize hv : orI (cmpI (el l (d + 1)).1 (el l d).1) (cmpI (el l (d + 1)).2.1 (el l d).2.1) (cmpI (el l (d + 1)).2.2.2 (el l d).2.2.2) (cmpI (el l (d + 1)).2.2.1 (el l d).2.2.1) = v
    have HV : Hid (orI (cmpI (el l (d + 1)).1 (el l d).1) (cmpI (el l (d + 1)).2.1 (el l d).2.1) (cmpI (el l (d + 1)).2.2.2 (el l d).2.2.2) (cmpI (el l (d + 1)).2.2.1 (el l d).2.2.1) = v) := hv
    have hva : decide (v < 0) = aheadB (el l (d + 1)) (el l d) := by rw [← hv]; exact orI_neg _ _
    clear hv
    rcases bool_cases' (aheadB (el l (d + 1)) (el l d)) with ha | ha
    ·have HO : Hid (false = r) := by
      show _ = _
      rw [← HR.out]
      rcases bool_cases' (sortB l) with hq | hq
      ·have := sortB_iff.1 hq d (by rw [HN.out]; omega)
       rw [ha] at this; cases this
      ·exact hq.symm
     rw [ha] at hva
     have hneg : v < 0 := by simpa using hva
     clear ha hva hok
     generalize hx : el l (d + 1) = x at HS HS0 HV
     generalize hy : el l d = y at HS HS0 HV
     clear hx hy
     go_wp2
     refine region_anyL (HeldJ b off d x y) 1000 (by kernel_rfl) ?_
     refine anyL_tk (i := 0) (v := ?v0_1) aZ0 (by kernel_rfl) ?y0_1 HS0 ?r0_1
     case y0_1 => intro wx hx; obtain ⟨⟨x0, x1, x2, x3⟩, ⟨y0, y1, y2, y3⟩⟩ := hx; go_simp; try (with_reducible rfl)
     simp only [Act.put, List.setIfInBounds_toArray, List.set_cons_zero, List.set_cons_succ]
     refine anyL_tk (i := 1) (v := ?v1_2) aZ1 (by kernel_rfl) ?y1_2 HS0 ?r1_2
     case y1_2 => intro wx hx; obtain ⟨⟨x0, x1, x2, x3⟩, ⟨y0, y1, y2, y3⟩⟩ := hx; go_simp; try (with_reducible rfl)
     simp only [Act.put, List.setIfInBounds_toArray, List.set_cons_zero, List.set_cons_succ]
     refine anyL_tk (i := 2) (v := ?v2_3) aZ2 (by kernel_rfl) ?y2_3 HS0 ?r2_3
     case y2_3 => intro wx hx; obtain ⟨⟨x0, x1, x2, x3⟩, ⟨y0, y1, y2, y3⟩⟩ := hx; go_simp; try (with_reducible rfl)
     simp only [Act.put, List.setIfInBounds_toArray, List.set_cons_zero, List.set_cons_succ]
     refine anyL_tk (i := 3) (v := ?v3_4) aZ3 (by kernel_rfl) ?y3_4 HS0 ?r3_4
     case y3_4 => intro wx hx; obtain ⟨⟨x0, x1, x2, x3⟩, ⟨y0, y1, y2, y3⟩⟩ := hx; go_simp; try (with_reducible rfl)
     simp only [Act.put, List.setIfInBounds_toArray, List.set_cons_zero, List.set_cons_succ]
     refine anyL_tk (i := 4) (v := ?v4_5) aZ4 (by kernel_rfl) ?y4_5 HS0 ?r4_5
     case y4_5 => intro wx hx; obtain ⟨⟨x0, x1, x2, x3⟩, ⟨y0, y1, y2, y3⟩⟩ := hx; go_simp; try (with_reducible rfl)
     simp only [Act.put, List.setIfInBounds_toArray, List.set_cons_zero, List.set_cons_succ]
     refine anyL_tk (i := 5) (v := ?v5_6) aZ5 (by kernel_rfl) ?y5_6 HS0 ?r5_6
     case y5_6 => intro wx hx; obtain ⟨⟨x0, x1, x2, x3⟩, ⟨y0, y1, y2, y3⟩⟩ := hx; go_simp; try (with_reducible rfl)
     simp only [Act.put, List.setIfInBounds_toArray, List.set_cons_zero, List.set_cons_succ]
     refine anyL_tk (i := 6) (v := ?v6_7) aZ6 (by kernel_rfl) ?y6_7 HS0 ?r6_7
     case y6_7 => intro wx hx; obtain ⟨⟨x0, x1, x2, x3⟩, ⟨y0, y1, y2, y3⟩⟩ := hx; go_simp; try (with_reducible rfl)
     simp only [Act.put, List.setIfInBounds_toArray, List.set_cons_zero, List.set_cons_succ]
     refine anyL_tk (i := 7) (v := ?v7_8) aZ7 (by kernel_rfl) ?y7_8 HS0 ?r7_8
     case y7_8 => intro wx hx; obtain ⟨⟨x0, x1, x2, x3⟩, ⟨y0, y1, y2, y3⟩⟩ := hx; go_simp; try (with_reducible rfl)
     simp only [Act.put, List.setIfInBounds_toArray, List.set_cons_zero, List.set_cons_succ]
     refine anyL_tk (i := 8) (v := ?v8_9) aZ8 (by kernel_rfl) ?y8_9 HS0 ?r8_9
     case y8_9 => intro wx hx; obtain ⟨⟨x0, x1, x2, x3⟩, ⟨y0, y1, y2, y3⟩⟩ := hx; go_simp; try (with_reducible rfl)
     simp only [Act.put, List.setIfInBounds_toArray, List.set_cons_zero, List.set_cons_succ]
     refine anyL_tk (i := 9) (v := ?v9_10) aZ9 (by kernel_rfl) ?y9_10 HS0 ?r9_10
     case y9_10 => intro wx hx; obtain ⟨⟨x0, x1, x2, x3⟩, ⟨y0, y1, y2, y3⟩⟩ := hx; go_simp; try (with_reducible rfl)
     simp only [Act.put, List.setIfInBounds_toArray, List.set_cons_zero, List.set_cons_succ]
     refine anyL_one (i := 10) aZ10 (by kernel_rfl) rfl (fun K hK => ?_)
     go_simp
     refine (inOrder_any x y _ v HV.out).mono ?_
     rintro e w1 ⟨rfl, hb1⟩
     have HB1 : Hid (Below w.heap.size w w1) := hb.trans ((below_undrewJ hb1).mono hb.size)
     have HS1 : HeldJ b off d x y w1 := ⟨HS.out.1.later (below_undrewJ hb1) (Nat.lt_of_lt_of_le hbl hb.size), HS.out.2.later (below_undrewJ hb1) (Nat.lt_of_lt_of_le hbl hb.size)⟩
     refine hK _ _ (.inr HS1) ?_
     try simp only [Act.put, List.setIfInBounds_toArray, List.set_cons_zero, List.set_cons_succ]
     refine anyL_one (i := 11) aZ11 (by kernel_rfl) rfl (fun K hK => ?_)
     go_simp
     refine hK _ _ (.inr HS1) (anyL_done (by kernel_rfl) (NoPanic.normal ?_))
     try simp only [Act.put, List.setIfInBounds_toArray, List.set_cons_zero, List.set_cons_succ]
     clear HS0 HS1 HS hK
     go_wp2
     go_ret
     exact ⟨ret_boolK HO.out, HB1.out⟩
    ·have HO : Hid (∀ j, d ≤ j → j + 1 < n → aheadB (el l (j + 1)) (el l j) = false) := fun j h1 h2 => by
      by_cases e : j = d
      ·subst e; exact ha
      ·exact hok.out j (by omega) h2
     rw [ha] at hva
     have hneg : ¬ v < 0 := by simpa using hva
     clear ha hva hok
     generalize hx : el l (d + 1) = x at HS HS0 HV
     generalize hy : el l d = y at HS HS0 HV
     clear hx hy
     go_wp2
     refine region_anyL (HeldJ b off d x y) 1000 (by kernel_rfl) ?_
     refine anyL_tk (i := 0) (v := ?v0_11) aZ0 (by kernel_rfl) ?y0_11 HS0 ?r0_11
     case y0_11 => intro wx hx; obtain ⟨⟨x0, x1, x2, x3⟩, ⟨y0, y1, y2, y3⟩⟩ := hx; go_simp; try (with_reducible rfl)
     simp only [Act.put, List.setIfInBounds_toArray, List.set_cons_zero, List.set_cons_succ]
     refine anyL_tk (i := 1) (v := ?v1_12) aZ1 (by kernel_rfl) ?y1_12 HS0 ?r1_12
     case y1_12 => intro wx hx; obtain ⟨⟨x0, x1, x2, x3⟩, ⟨y0, y1, y2, y3⟩⟩ := hx; go_simp; try (with_reducible rfl)
     simp only [Act.put, List.setIfInBounds_toArray, List.set_cons_zero, List.set_cons_succ]
     refine anyL_tk (i := 2) (v := ?v2_13) aZ2 (by kernel_rfl) ?y2_13 HS0 ?r2_13
     case y2_13 => intro wx hx; obtain ⟨⟨x0, x1, x2, x3⟩, ⟨y0, y1, y2, y3⟩⟩ := hx; go_simp; try (with_reducible rfl)
     simp only [Act.put, List.setIfInBounds_toArray, List.set_cons_zero, List.set_cons_succ]
     refine anyL_tk (i := 3) (v := ?v3_14) aZ3 (by kernel_rfl) ?y3_14 HS0 ?r3_14
     case y3_14 => intro wx hx; obtain ⟨⟨x0, x1, x2, x3⟩, ⟨y0, y1, y2, y3⟩⟩ := hx; go_simp; try (with_reducible rfl)
     simp only [Act.put, List.setIfInBounds_toArray, List.set_cons_zero, List.set_cons_succ]
     refine anyL_tk (i := 4) (v := ?v4_15) aZ4 (by kernel_rfl) ?y4_15 HS0 ?r4_15
     case y4_15 => intro wx hx; obtain ⟨⟨x0, x1, x2, x3⟩, ⟨y0, y1, y2, y3⟩⟩ := hx; go_simp; try (with_reducible rfl)
     simp only [Act.put, List.setIfInBounds_toArray, List.set_cons_zero, List.set_cons_succ]
     refine anyL_tk (i := 5) (v := ?v5_16) aZ5 (by kernel_rfl) ?y5_16 HS0 ?r5_16
     case y5_16 => intro wx hx; obtain ⟨⟨x0, x1, x2, x3⟩, ⟨y0, y1, y2, y3⟩⟩ := hx; go_simp; try (with_reducible rfl)
     simp only [Act.put, List.setIfInBounds_toArray, List.set_cons_zero, List.set_cons_succ]
     refine anyL_tk (i := 6) (v := ?v6_17) aZ6 (by kernel_rfl) ?y6_17 HS0 ?r6_17
     case y6_17 => intro wx hx; obtain ⟨⟨x0, x1, x2, x3⟩, ⟨y0, y1, y2, y3⟩⟩ := hx; go_simp; try (with_reducible rfl)
     simp only [Act.put, List.setIfInBounds_toArray, List.set_cons_zero, List.set_cons_succ]
     refine anyL_tk (i := 7) (v := ?v7_18) aZ7 (by kernel_rfl) ?y7_18 HS0 ?r7_18
     case y7_18 => intro wx hx; obtain ⟨⟨x0, x1, x2, x3⟩, ⟨y0, y1, y2, y3⟩⟩ := hx; go_simp; try (with_reducible rfl)
     simp only [Act.put, List.setIfInBounds_toArray, List.set_cons_zero, List.set_cons_succ]
     refine anyL_tk (i := 8) (v := ?v8_19) aZ8 (by kernel_rfl) ?y8_19 HS0 ?r8_19
     case y8_19 => intro wx hx; obtain ⟨⟨x0, x1, x2, x3⟩, ⟨y0, y1, y2, y3⟩⟩ := hx; go_simp; try (with_reducible rfl)
     simp only [Act.put, List.setIfInBounds_toArray, List.set_cons_zero, List.set_cons_succ]
     refine anyL_tk (i := 9) (v := ?v9_20) aZ9 (by kernel_rfl) ?y9_20 HS0 ?r9_20
     case y9_20 => intro wx hx; obtain ⟨⟨x0, x1, x2, x3⟩, ⟨y0, y1, y2, y3⟩⟩ := hx; go_simp; try (with_reducible rfl)
     simp only [Act.put, List.setIfInBounds_toArray, List.set_cons_zero, List.set_cons_succ]
     refine anyL_one (i := 10) aZ10 (by kernel_rfl) rfl (fun K hK => ?_)
     go_simp
     refine (inOrder_any x y _ v HV.out).mono ?_
     rintro e w1 ⟨rfl, hb1⟩
     have HB1 : Hid (Below w.heap.size w w1) := hb.trans ((below_undrewJ hb1).mono hb.size)
     have HS1 : HeldJ b off d x y w1 := ⟨HS.out.1.later (below_undrewJ hb1) (Nat.lt_of_lt_of_le hbl hb.size), HS.out.2.later (below_undrewJ hb1) (Nat.lt_of_lt_of_le hbl hb.size)⟩
     refine hK _ _ (.inr HS1) ?_
     try simp only [Act.put, List.setIfInBounds_toArray, List.set_cons_zero, List.set_cons_succ]
     refine anyL_one (i := 11) aZ11 (by kernel_rfl) rfl (fun K hK => ?_)
     go_simp
     refine hK _ _ (.inr HS1) (anyL_done (by kernel_rfl) (NoPanic.normal ?_))
     try simp only [Act.put, List.setIfInBounds_toArray, List.set_cons_zero, List.set_cons_succ]
     clear HS0 HS1 HS hK
     go_wp2
     go_roundw
     case rel => exact ⟨d, by omega, by go_num, HO, HB1.out⟩
     case measure => simp [intOf]
   ·obtain rfl : c = 0 := by omega
    have HO : Hid (true = r) := by show _ = _; rw [← HR.out]; exact (sortB_iff.2 (fun i hi => hok.out i (Nat.zero_le _) (by rw [← HN.out]; exact hi))).symm
    clear hok
    go_wp2
    go_ret
    exact ⟨ret_boolK HO.out, hb⟩
 ·obtain rfl : l = [] := List.eq_nil_of_length_eq_zero (by omega)
  subst hr
  go_enter Tryz.func60, Tryz.ntmps60
  go_wp2
  refine wp_loop_rounds 1 ?_; rw [rounds_succ]
  go_wp2
  go_ret
  exact ⟨rfl, Below.refl _ _⟩
theorem isInOrder_ask (l : List St) (w : World) (hl : ∀ j, j < l.length → (el l j).2.length ≤ 4398046511104) : AskS 34 #[] (fun s => sortB s.2) l w := by
 refine ⟨enters_of Tryz.func34 (by kernel_rfl) rfl, fun j hj W va hW hA => ?_⟩
 have HL : Hid ((el l j).2.length ≤ 4398046511104) := hl j hj
 generalize el l j = s at *
 obtain ⟨f, ar⟩ := s
 simp only at hA HL ⊢
 show Calls _ _ #[.agg #[.int .i64 f, va]] W _
 obtain ⟨a, cap, rfl⟩ := hA.sl
 have HA : Hid (Arcs W (.slice a ar.length cap) ar) := hA
 clear hA
 go_enter Tryz.func34, Tryz.ntmps34
 go_wp2_with (first | (go_at_call 60; (with_reducible refine (isSorted_any _ ar _ (HA.out.later (B := W.heap.size) (by go_grown) (Nat.le_refl _)) HL.out _ rfl).mono ?_); rintro e w1 ⟨rfl, hb⟩; obtain ⟨s1, b1, hb1⟩ := boxed hb (by simp)))
 go_ret
 exact ⟨rfl, hb1⟩
end Go.Proofs.YtfhjncpakgailaaGreatDoor.Wt
namespace Go.Proofs.YtfhjncpakgailaaGreatDoor.Wt
open Go.ChangeShapes Go.WideShapes Go.ChangeAt Go.RowKit
open Go.Proofs.YtfhjncpakgailaaGreatDoor.Pl
set_option linter.unusedVariables false
def accA (a : Ar) : Bool := decide (a.1 = a.2.1)
def fullA (a : Ar) : Bool := !(decide (a.1 = 0) && decide (a.2.1 = 0))
def freeA (a : Ar) : Bool := decide (a.2.2.1 = 0)
def freeS (s : St) : Bool := decide (s.1 = 0) || decide (s.1 = 1000000001)
theorem acc_ask (w : World) : AskA 31 #[] accA w := by
 refine ⟨enters_of Tryz.func31 (by kernel_rfl) rfl, fun a W hW => ?_⟩
 obtain ⟨a0, a1, a2, a3⟩ := a
 show Calls _ _ #[.agg #[.int .i64 a0, .int .i64 a1, .int .i64 a2, .int .i64 a3]] W _
 by_cases h : a0 = a1
 ·subst h
  go_enter Tryz.func31, Tryz.ntmps31
  go_wp2
  go_ret
  exact ⟨ret_boolK (by simp [accA]), by go_grown⟩
 ·have hne : (a0 == a1) = false := by simpa using h
  go_enter Tryz.func31, Tryz.ntmps31
  go_wp2
  go_ret
  exact ⟨ret_boolK (by simp [accA, h]), by go_grown⟩
theorem free_ask (w : World) : AskA 35 #[] freeA w := by
 refine ⟨enters_of Tryz.func35 (by kernel_rfl) rfl, fun a W hW => ?_⟩
 obtain ⟨a0, a1, a2, a3⟩ := a
 show Calls _ _ #[.agg #[.int .i64 a0, .int .i64 a1, .int .i64 a2, .int .i64 a3]] W _
 by_cases h : a2 = 0
 ·subst h
  go_enter Tryz.func35, Tryz.ntmps35
  go_wp2
  go_ret
  exact ⟨ret_boolK (by simp [freeA]), by go_grown⟩
 ·have hne : (a2 == 0) = false := by simpa using h
  go_enter Tryz.func35, Tryz.ntmps35
  go_wp2
  go_ret
  exact ⟨ret_boolK (by simp [freeA, h]), by go_grown⟩
theorem full_ask (w : World) : AskA 30 #[] fullA w := by
 refine ⟨enters_of Tryz.func30 (by kernel_rfl) rfl, fun a W hW => ?_⟩
 obtain ⟨a0, a1, a2, a3⟩ := a
 show Calls _ _ #[.agg #[.int .i64 a0, .int .i64 a1, .int .i64 a2, .int .i64 a3]] W _
 by_cases h : a0 = 0
 ·subst h
  by_cases h1 : a1 = 0
  ·subst h1
   go_enter Tryz.func30, Tryz.ntmps30
   go_wp2
   go_ret
   exact ⟨ret_boolK (by simp [fullA]), by go_grown⟩
  ·have hne : (a1 != 0) = true := by simpa using h1
   go_enter Tryz.func30, Tryz.ntmps30
   go_wp2
   go_ret
   exact ⟨ret_boolK (by simp [fullA, h1]), by go_grown⟩
 ·have hne : (a0 != 0) = true := by simpa using h
  go_enter Tryz.func30, Tryz.ntmps30
  go_wp2
  go_ret
  exact ⟨ret_boolK (by simp [fullA, h]), by go_grown⟩
theorem ends_ask (l : List St) (w : World) : AskS 36 #[] freeS l w := by
 refine ⟨enters_of Tryz.func36 (by kernel_rfl) rfl, fun j hj W va hW hA => ?_⟩
 generalize el l j = s at *
 obtain ⟨f, ar⟩ := s
 obtain ⟨a, cap, rfl⟩ := hA.sl
 show Calls _ _ #[.agg #[.int .i64 f, .slice a ar.length cap]] W _
 clear hA
 by_cases h : f = 0
 ·subst h
  go_enter Tryz.func36, Tryz.ntmps36
  go_wp2
  go_ret
  exact ⟨ret_boolK (by simp [freeS]), by go_grown⟩
 ·have hne : (f == 0) = false := by simpa using h
  by_cases h1 : f = 1000000001
  ·subst h1
   go_enter Tryz.func36, Tryz.ntmps36
   go_wp2
   go_ret
   exact ⟨ret_boolK (by simp [freeS]), by go_grown⟩
  ·have hne1 : (f == 1000000001) = false := by simpa using h1
   go_enter Tryz.func36, Tryz.ntmps36
   go_wp2
   go_ret
   exact ⟨ret_boolK (by simp [freeS, h, h1]), by go_grown⟩
end Go.Proofs.YtfhjncpakgailaaGreatDoor.Wt
