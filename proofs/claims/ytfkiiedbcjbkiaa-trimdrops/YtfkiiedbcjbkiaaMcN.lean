/- What a machine has: core.Count, and the reference's counts. -/
import Derived.Test.YtfkiiedbcjbkiaaMcV
import Derived.Test.YtfkiiedbcjbkiaaMcR
import Derived.Test.YtfkiiedbcjbkiaaRg
namespace Go.Proofs.Ytfkiiedbcjbkiaa.Wt
open Go.ChangeShapes Go.WideShapes Go.ChangeAt Go.RowKit
open Go.Proofs.Ytfkiiedbcjbkiaa.Pl
set_option linter.unusedVariables false
set_option linter.unusedSimpArgs false
theorem finalsOf_any (v : Value) (m : Mc) (w : World) (h : Mach w v m) (h60 : m.2.length ≤ 60) (q : Nat) (hq : finN m.2 = q) :
    Calls Try.prog 34 #[v] w fun e w' => e = .returned (.int .i64 q) ∧ Below w.heap.size w w' := by
  subst hq
  obtain ⟨z, l⟩ := m
  obtain ⟨vs, rfl, hS⟩ := h
  obtain ⟨a, cap, rfl, hc⟩ := hS.get
  have hA := finN_take_le l
  clear hS
  simp only at h60 ⊢
  have HX : Hid (∀ k, finN (l.take k) ≤ l.length) := hA
  have HC : Hid (∀ j, j < l.length → ∃ b off va, a = some ⟨b, off, none⟩ ∧ b < w.heap.size ∧ w.cell? ⟨b, off + j * 2, none⟩ = some (.int .i64 (el l j).1) ∧ w.cell? ⟨b, off + j * 2 + 1, none⟩ = some va ∧ Arcs w va (el l j).2) := hc
  clear hA hc
  generalize hn : l.length = n at *
  go_enter Try.func34, Try.ntmps34
  go_wp2
  go_loopw [3, 9] (fun s i wr => ∃ k : Nat, k ≤ n ∧ i = .int .i64 k ∧ s = .int .i64 (finN (l.take k)) ∧ Below w.heap.size w wr) (fun _ i _ => n - (intOf i).toNat)
  case atStart => exact ⟨0, Nat.zero_le _, rfl, rfl, by go_grown⟩
  case round =>
    obtain ⟨k, hk, rfl, rfl, hb⟩ := hrel
    by_cases hlt : k < n
    · obtain ⟨b, off, va, rfl, hbl, g0, g1, gA⟩ := HC.out k hlt
      obtain ⟨a2, cap2, rfl⟩ := gA.sl
      have g0 := (hb.cell (p := ⟨b, off + k * 2, none⟩) hbl).trans g0
      have g1 := (hb.cell (p := ⟨b, off + k * 2 + 1, none⟩) hbl).trans g1
      have h1 := HX.out k
      have HE : Hid (finN (l.take (k + 1)) = finN (l.take k) + (if (el l k).1 = 1000000001 then 0 else 1)) := finN_take (by omega)
      clear gA
      generalize finN (l.take k) = s at *
      generalize (el l k).2.length = q at *
      generalize (el l k).1 = f at *
      by_cases hf : f = 1000000001
      · have HE2 : Hid (finN (l.take (k + 1)) = s) := by have h := HE.out; rw [if_pos hf] at h; exact h
        subst hf
        go_wp2
        go_roundw
        case rel => exact ⟨k + 1, by omega, by go_num, by rw [HE2.out], hb.alloc hb.size _⟩
        case measure => simp [intOf]; omega
      · have HE2 : Hid (finN (l.take (k + 1)) = s + 1) := by have h := HE.out; rw [if_neg hf] at h; exact h
        have hne : (f != 1000000001) = true := by simpa using hf
        go_wp2
        go_roundw
        case rel => exact ⟨k + 1, by omega, by go_num, by rw [HE2.out]; go_num, hb.alloc hb.size _⟩
        case measure => simp [intOf]; omega
    · have hke : k = n := by omega
      go_wp2
      go_ret
      refine ⟨ret_intK ?_, hb⟩
      rw [hke, ← hn, List.take_length]
/-- Behind a call that was made with two boxes laid. -/
theorem boxed2 {w w1 : World} {c0 c1 : Array Value} {t0 t1 : TypeId} {n : Nat} (hb : Below n ((w.alloc (.cells c0 t0)).alloc (.cells c1 t1)) w1) (hn : n = w.heap.size + 2) : w.heap.size + 2 ≤ w1.heap.size ∧ Blk w1 w.heap.size c0 t0 ∧ Blk w1 (w.heap.size + 1) c1 t1 ∧ Below w.heap.size w w1 := by
  subst hn
  have h := hb.size
  simp only [World.size_alloc] at h
  have k1 := Blk.made (w.alloc (.cells c0 t0)) c1 t1
  simp only [World.size_alloc] at k1
  exact ⟨h, ((Blk.made w c0 t0).alloc _).below hb (by omega), k1.below hb (by omega), (((Below.refl _ _).alloc (Nat.le_refl _) _).alloc (by simp) _).trans (hb.mono (by omega))⟩
theorem below_undrew {B : Nat} {w w' : World} (h : Below B w.drew w') : Below B w w' := ⟨h.os, h.tape, h.output, h.size, h.block⟩
def HeldN (B : Nat) (z : Int) (v : Value) (w : World) : Prop := w.cell? ⟨B, 0, none⟩ = some (.int .i64 z) ∧ w.cell? ⟨B, 1, none⟩ = some v
set_option maxRecDepth 100000 in
set_option maxHeartbeats 1000000 in
theorem count_any (v : Value) (m : Mc) (w : World) (h : Mach w v m) (hok : okM m) (r c0 c1 c2 : Int) (hr : faultM m = r) (hcs : if r = 0 then c0 = m.2.length ∧ c1 = arcN m.2 ∧ c2 = finN m.2 else c0 = 0 ∧ c1 = 0 ∧ c2 = 0) :
    Calls Try.prog 19 #[v] w fun e w' => e = .returned (.tuple #[.agg #[.int .i64 c0, .int .i64 c1, .int .i64 c2], .int .i64 r]) ∧ Below w.heap.size w w' := by
  obtain ⟨z, l⟩ := m
  obtain ⟨vs, rfl, hS⟩ := h
  obtain ⟨a, cap, rfl⟩ := hS.sl
  have HM : Hid (Mach w (.agg #[.int .i64 z, .slice a l.length cap]) (z, l)) := ⟨_, rfl, hS⟩
  have HK : Hid (okM (z, l)) := hok
  have HR : Hid (faultM (z, l) = r) := hr
  have hl := hok.1
  simp only at hcs hl ⊢
  clear hS hok
  by_cases hr0 : r = 0
  · rw [if_pos hr0] at hcs
    obtain ⟨rfl, rfl, rfl⟩ := hcs
    subst hr0
    have hsz := right_size hr
    have H60 : Hid (l.length ≤ 60) := hsz.1
    clear hr hsz
    generalize hq : arcN l = q at *
    have HQ : Hid (arcN l = q) := hq
    generalize hp : finN l = p at *
    have HP : Hid (finN l = p) := hp
    clear hq hp
    generalize hn : l.length = n at *
    have HN : Hid (l.length = n) := hn
    clear hn
    go_enter Try.func19, Try.ntmps19
    go_wp2_with (first
      | (go_at_call 20; (with_reducible refine (coreCheck_any _ (z, l) _ (HM.out.later (B := w.heap.size) (by go_grown) (Nat.le_refl _)) HK.out _ HR.out).mono ?_); rintro e w1 ⟨rfl, hb⟩; obtain ⟨s1, k0, k1, hb1⟩ := boxed2 hb (by simp); have HB1 : Hid (Below w.heap.size w w1) := hb1; have K0 : Hid (Blk w1 w.heap.size #[.int .i64 z, .slice a n cap] 24) := k0; have K1 : Hid (Blk w1 (w.heap.size + 1) #[.int .i64 0, .int .i64 0, .int .i64 0] 46) := k1; clear hb hb1 k0 k1))
    refine region_anyL (HeldN w.heap.size z (.slice a n cap)) 1000 (by kernel_rfl) ?_
    have HS : HeldN w.heap.size z (.slice a n cap) w1.drew := ⟨K0.out.cell 0 rfl, K0.out.cell 1 rfl⟩
    refine anyL_take (i := 0) (v := ?v0_1) at0 (by kernel_rfl) (by kernel_rfl) (by kernel_rfl) (by kernel_rfl) (fun _ _ _ h => h) rfl ?y0_1 HS ?r0_1
    case y0_1 => intro wx hx; obtain ⟨h1, h2⟩ := hx; go_simp; try (with_reducible rfl)
    simp only [Act.put, List.setIfInBounds_toArray, List.set_cons_zero, List.set_cons_succ]
    refine anyL_take (i := 1) (v := ?v1_2) (atS at0) (by kernel_rfl) (by kernel_rfl) (by kernel_rfl) (by kernel_rfl) (fun _ _ _ h => h) rfl ?y1_2 HS ?r1_2
    case y1_2 => intro wx hx; obtain ⟨h1, h2⟩ := hx; go_simp; try (with_reducible rfl)
    simp only [Act.put, List.setIfInBounds_toArray, List.set_cons_zero, List.set_cons_succ]
    refine anyL_take (i := 2) (v := ?v2_3) (atS (atS at0)) (by kernel_rfl) (by kernel_rfl) (by kernel_rfl) (by kernel_rfl) (fun _ _ _ h => h) rfl ?y2_3 HS ?r2_3
    case y2_3 => intro wx hx; obtain ⟨h1, h2⟩ := hx; go_simp; try (with_reducible rfl)
    simp only [Act.put, List.setIfInBounds_toArray, List.set_cons_zero, List.set_cons_succ]
    refine anyL_take (i := 3) (v := ?v3_4) (atS (atS (atS at0))) (by kernel_rfl) (by kernel_rfl) (by kernel_rfl) (by kernel_rfl) (fun _ _ _ h => h) rfl ?y3_4 HS ?r3_4
    case y3_4 => intro wx hx; obtain ⟨h1, h2⟩ := hx; go_simp; try (with_reducible rfl)
    simp only [Act.put, List.setIfInBounds_toArray, List.set_cons_zero, List.set_cons_succ]
    refine anyL_take (i := 5) (v := ?v5_5) (atS (atS (atS (atS (atS at0))))) (by kernel_rfl) (by kernel_rfl) (by kernel_rfl) (by kernel_rfl) (fun _ _ _ h => h) rfl ?y5_5 HS ?r5_5
    case y5_5 => intro wx hx; obtain ⟨h1, h2⟩ := hx; go_simp; try (with_reducible rfl)
    simp only [Act.put, List.setIfInBounds_toArray, List.set_cons_zero, List.set_cons_succ]
    refine anyL_one (i := 4) (atS (atS (atS (atS at0)))) (by kernel_rfl) rfl (fun K hK => ?_)
    go_simp
    refine (arcsOf_any _ (z, l) _ (HM.out.later HB1.out.drew (Nat.le_refl _)) HK.out (by show l.length ≤ 60; rw [HN.out]; exact H60.out) q HQ.out).mono ?_
    rintro e w2 ⟨rfl, hb⟩
    have HB2 : Below w1.heap.size w1 w2 := below_undrew hb
    have HS2 : HeldN w.heap.size z (.slice a n cap) w2 := ⟨(K0.out.below HB2 (by omega)).cell 0 rfl, (K0.out.below HB2 (by omega)).cell 1 rfl⟩
    refine hK _ _ (.inr HS2) ?_
    try simp only [Act.put, List.setIfInBounds_toArray, List.set_cons_zero, List.set_cons_succ]
    refine anyL_one (i := 6) (atS (atS (atS (atS (atS (atS at0)))))) (by kernel_rfl) rfl (fun K hK => ?_)
    go_simp
    refine (finalsOf_any _ (z, l) _ (HM.out.later (HB1.out.trans (HB2.mono HB1.out.size)) (Nat.le_refl _)) (by show l.length ≤ 60; rw [HN.out]; exact H60.out) p HP.out).mono ?_
    rintro e w3 ⟨rfl, hb3⟩
    have HB3 : Below w1.heap.size w1 w3 := HB2.trans (hb3.mono HB2.size)
    have HS3 : HeldN w.heap.size z (.slice a n cap) w3 := ⟨(K0.out.below HB3 (by omega)).cell 0 rfl, (K0.out.below HB3 (by omega)).cell 1 rfl⟩
    have K3 := K1.out.below HB3 (by omega)
    have e0 := K3.cell 0 (v := .int .i64 0) rfl
    have e1 := K3.cell 1 (v := .int .i64 0) rfl
    have e2 := K3.cell 2 (v := .int .i64 0) rfl
    have f0 := K3.fz 0
    have f1 := K3.fz 1
    have f2 := K3.fz 2
    refine hK _ _ (.inr HS3) ?_
    try simp only [Act.put, List.setIfInBounds_toArray, List.set_cons_zero, List.set_cons_succ]
    refine anyL_take (i := 7) (v := ?v7_6) (atS (atS (atS (atS (atS (atS (atS at0))))))) (by kernel_rfl) (by kernel_rfl) (by kernel_rfl) (by kernel_rfl) (fun _ _ _ h => h) rfl ?y7_6 HS3 ?r7_6
    case y7_6 => intro wx hx; obtain ⟨h1, h2⟩ := hx; go_simp; try (with_reducible rfl)
    simp only [Act.put, List.setIfInBounds_toArray, List.set_cons_zero, List.set_cons_succ]
    refine anyL_one (i := 8) (atS (atS (atS (atS (atS (atS (atS (atS at0)))))))) (by kernel_rfl) rfl (fun K hK => ?_)
    have q0 := HS3.1
    have q1 := HS3.2
    have HB4 : Hid (Below w.heap.size w w3) := HB1.out.trans (HB3.mono HB1.out.size)
    go_simp
    refine hK _ _ (.inr ⟨by go_cell, by go_cell⟩) ?_
    try simp only [Act.put, List.setIfInBounds_toArray, List.set_cons_zero, List.set_cons_succ]
    refine anyL_one (i := 9) (atS (atS (atS (atS (atS (atS (atS (atS (atS at0))))))))) (by kernel_rfl) rfl (fun K hK => ?_)
    go_simp
    refine hK _ _ (.inr ⟨by go_cell, by go_cell⟩) (anyL_done (by kernel_rfl) (NoPanic.normal ?_))
    try simp only [Act.put, List.setIfInBounds_toArray, List.set_cons_zero, List.set_cons_succ]
    go_wp2
    exact bodyPost_ret (v := .tuple #[.agg #[.int .i64 n, .int .i64 q, .int .i64 p], .int .i64 0]) (by simp [results, Try.results19, go_sem, *]) rfl ⟨rfl, by (have h := HB4.out); go_grown⟩
  · rw [if_neg hr0] at hcs
    obtain ⟨rfl, rfl, rfl⟩ := hcs
    have hne : (r != 0) = true := by simpa using hr0
    clear hr
    go_enter Try.func19, Try.ntmps19
    go_wp2_with (first
      | (go_at_call 20; (with_reducible refine (coreCheck_any _ (z, l) _ (HM.out.later (B := w.heap.size) (by go_grown) (Nat.le_refl _)) HK.out _ HR.out).mono ?_); rintro e w1 ⟨rfl, hb⟩; obtain ⟨s1, k0, k1, hb1⟩ := boxed2 hb (by simp); have HB1 : Hid (Below w.heap.size w w1) := hb1; have e0 := k1.cell 0 (v := .int .i64 0) rfl; have e1 := k1.cell 1 (v := .int .i64 0) rfl; have e2 := k1.cell 2 (v := .int .i64 0) rfl; have f0 := k1.fz 0; have f1 := k1.fz 1; have f2 := k1.fz 2; clear hb hb1 k0 k1))
    exact bodyPost_ret (v := .tuple #[.agg #[.int .i64 0, .int .i64 0, .int .i64 0], .int .i64 r]) (by simp [results, Try.results19, go_sem, *]) rfl ⟨rfl, by (have h := HB1.out); go_grown⟩
end Go.Proofs.Ytfkiiedbcjbkiaa.Wt
