/- What a machine has, by the reference. -/
import Derived.Test.YtakpdoodbifkgaaMcN
namespace Go.Proofs.Ytakpdoodbifkgaa.Wt
open Go.ChangeShapes Go.WideShapes Go.ChangeAt Go.RowKit
open Go.Proofs.Ytakpdoodbifkgaa.Pl
set_option linter.unusedVariables false
set_option linter.unusedSimpArgs false
set_option maxRecDepth 100000 in
set_option maxHeartbeats 1000000 in
theorem counted_any (v : Value) (m : Mc) (w : World) (h : Mach w v m) (hok : okM m) (r c0 c1 c2 : Int) (hr : faultM m = r) (hcs : if r = 0 then c0 = m.2.length ∧ c1 = arcN m.2 ∧ c2 = finN m.2 else c0 = 0 ∧ c1 = 0 ∧ c2 = 0) :
    Calls Try.prog 12 #[v] w fun e w' => e = .returned (.tuple #[.agg #[.int .i64 c0, .int .i64 c1, .int .i64 c2], .int .i64 r]) ∧ Below w.heap.size w w' := by
  obtain ⟨z, l⟩ := m
  obtain ⟨vs, rfl, hS⟩ := h
  obtain ⟨a, cap, rfl, hc⟩ := hS.get
  have HM : Hid (Mach w (.agg #[.int .i64 z, .slice a l.length cap]) (z, l)) := ⟨_, rfl, hS⟩
  have HC : Hid (∀ j, j < l.length → ∃ b off va, a = some ⟨b, off, none⟩ ∧ b < w.heap.size ∧ w.cell? ⟨b, off + j * 2, none⟩ = some (.int .i64 (el l j).1) ∧ w.cell? ⟨b, off + j * 2 + 1, none⟩ = some va ∧ Arcs w va (el l j).2) := hc
  have HK : Hid (okM (z, l)) := hok
  have HR : Hid (faultM (z, l) = r) := hr
  have hl := hok.1
  simp only at hcs hl ⊢
  clear hS hok hc
  by_cases hr0 : r = 0
  · rw [if_pos hr0] at hcs
    obtain ⟨rfl, rfl, rfl⟩ := hcs
    subst hr0
    have hsz := right_size hr
    have H60 : Hid (l.length ≤ 60) := hsz.1
    have HF : Hid (∀ j, j < l.length → finB (el l j).1 = true) := fun j hj => (right_st hr hj).1
    have HX : Hid (∀ k, finN (l.take k) ≤ l.length) := finN_take_le l
    clear hr hsz
    generalize hq : arcN l = q at *
    have HQ : Hid (arcN l = q) := hq
    clear hq
    generalize hn : l.length = n at *
    have HN : Hid (l.length = n) := hn
    clear hn
    go_enter Try.func12, Try.ntmps12
    go_wp2_with (first
      | (go_at_call 9; (with_reducible refine (fault_any _ (z, l) _ (HM.out.later (B := w.heap.size) (by go_grown) (Nat.le_refl _)) HK.out _ HR.out).mono ?_); rintro e w1 ⟨rfl, hb⟩; obtain ⟨s1, k0, k1, hb1⟩ := boxed2 hb (by simp); have HB1 : Hid (Below w.heap.size w w1) := hb1; have K0 : Hid (Blk w1 w.heap.size #[.int .i64 z, .slice a n cap] 24) := k0; have K1 : Hid (Blk w1 (w.heap.size + 1) #[.int .i64 0, .int .i64 0, .int .i64 0] 31) := k1; clear hb hb1 k0 k1))
    have x0 := K0.out.cell 0 (v := .int .i64 z) rfl
    have x1 := K0.out.cell 1 (v := .slice a n cap) rfl
    go_loop [5, 6] (fun s i => ∃ k : Nat, k ≤ n ∧ i = .int .i64 k ∧ s = .int .i64 (finN (l.take k))) (fun _ i => n - (intOf i).toNat)
    case atStart => exact ⟨0, Nat.zero_le _, rfl, rfl⟩
    case round =>
      obtain ⟨k, hk, rfl, rfl⟩ := hrel
      by_cases hlt : k < n
      · obtain ⟨b, off, va, rfl, hbl, g0, g1, gA⟩ := HC.out k hlt
        have g0 := (HB1.out.cell (p := ⟨b, off + k * 2, none⟩) hbl).trans g0
        have h1 := HX.out k
        have hf := HF.out k hlt
        have HE : Hid (finN (l.take (k + 1)) = finN (l.take k) + (if (el l k).1 = 1000000001 then 0 else 1)) := finN_take (by rw [HN.out]; exact hlt)
        clear gA g1
        generalize finN (l.take k) = s at *
        generalize (el l k).1 = f at *
        by_cases hfe : f = 1000000001
        · have HE2 : Hid (finN (l.take (k + 1)) = s) := by have h := HE.out; rw [if_pos hfe] at h; exact h
          subst hfe
          clear hf
          go_wp2
          go_round
          case rel => exact ⟨k + 1, by omega, by go_num, by rw [HE2.out]⟩
          case measure => simp [intOf]; omega
        · have HE2 : Hid (finN (l.take (k + 1)) = s + 1) := by have h := HE.out; rw [if_neg hfe] at h; exact h
          have hlf : f < 1000000001 := (fin_lt hf).2 hfe
          clear hf hfe
          go_wp2
          go_round
          case rel => exact ⟨k + 1, by omega, by go_num, by rw [HE2.out]; go_num⟩
          case measure => simp [intOf]; omega
      · have hke : k = n := by omega
        have HP : Hid (finN (l.take k) = finN l) := by show _ = _; rw [hke, ← HN.out, List.take_length]
        rw [HP.out]
        have hnl : ¬ (k : Int) < (n : Int) := by omega
        clear hke hlt x0 x1
        have x1 := K0.out.cell 1 (v := .slice a n cap) rfl
        go_wp2
        refine region_anyL (HeldN w.heap.size z (.slice a n cap)) 1000 (by kernel_rfl) ?_
        have HS : HeldN w.heap.size z (.slice a n cap) w1.drew := ⟨K0.out.cell 0 rfl, K0.out.cell 1 rfl⟩
        refine anyL_take (i := 0) (v := ?v0) at0 (by kernel_rfl) (by kernel_rfl) (by kernel_rfl) (by kernel_rfl) (fun _ _ _ h => h) rfl ?y0 HS ?r0
        case y0 => intro wx hx; obtain ⟨h1, h2⟩ := hx; go_simp; try (with_reducible rfl)
        simp only [Act.put, List.setIfInBounds_toArray, List.set_cons_zero, List.set_cons_succ]
        refine anyL_take (i := 1) (v := ?v1) (atS at0) (by kernel_rfl) (by kernel_rfl) (by kernel_rfl) (by kernel_rfl) (fun _ _ _ h => h) rfl ?y1 HS ?r1
        case y1 => intro wx hx; obtain ⟨h1, h2⟩ := hx; go_simp; try (with_reducible rfl)
        simp only [Act.put, List.setIfInBounds_toArray, List.set_cons_zero, List.set_cons_succ]
        refine anyL_take (i := 2) (v := ?v2) (atS (atS at0)) (by kernel_rfl) (by kernel_rfl) (by kernel_rfl) (by kernel_rfl) (fun _ _ _ h => h) rfl ?y2 HS ?r2
        case y2 => intro wx hx; obtain ⟨h1, h2⟩ := hx; go_simp; try (with_reducible rfl)
        simp only [Act.put, List.setIfInBounds_toArray, List.set_cons_zero, List.set_cons_succ]
        refine anyL_take (i := 3) (v := ?v3) (atS (atS (atS at0))) (by kernel_rfl) (by kernel_rfl) (by kernel_rfl) (by kernel_rfl) (fun _ _ _ h => h) rfl ?y3 HS ?r3
        case y3 => intro wx hx; obtain ⟨h1, h2⟩ := hx; go_simp; try (with_reducible rfl)
        simp only [Act.put, List.setIfInBounds_toArray, List.set_cons_zero, List.set_cons_succ]
        refine anyL_take (i := 5) (v := ?v5) (atS (atS (atS (atS (atS at0))))) (by kernel_rfl) (by kernel_rfl) (by kernel_rfl) (by kernel_rfl) (fun _ _ _ h => h) rfl ?y5 HS ?r5
        case y5 => intro wx hx; obtain ⟨h1, h2⟩ := hx; go_simp; try (with_reducible rfl)
        simp only [Act.put, List.setIfInBounds_toArray, List.set_cons_zero, List.set_cons_succ]
        refine anyL_one (i := 4) (atS (atS (atS (atS at0)))) (by kernel_rfl) rfl (fun K hK => ?_)
        go_simp
        refine (arcCount_any _ (z, l) _ (HM.out.later HB1.out.drew (Nat.le_refl _)) HK.out (by show l.length ≤ 60; rw [HN.out]; exact H60.out) q HQ.out).mono ?_
        rintro e w3 ⟨rfl, hb⟩
        have HB3 : Below w1.heap.size w1 w3 := below_undrew hb
        have HS3 : HeldN w.heap.size z (.slice a n cap) w3 := ⟨(K0.out.below HB3 (by omega)).cell 0 rfl, (K0.out.below HB3 (by omega)).cell 1 rfl⟩
        have K3 := K1.out.below HB3 (by omega)
        have e0 := K3.cell 0 (v := .int .i64 0) rfl
        have e1 := K3.cell 1 (v := .int .i64 0) rfl
        have e2 := K3.cell 2 (v := .int .i64 0) rfl
        have f0 := K3.fz 0
        have f1 := K3.fz 1
        have f2 := K3.fz 2
        refine hK _ _ (.inr HS3) ?_
        try simp only [Act.put, List.setIfInBounds_toArray, List.set_cons_zero, List.set_cons_succ]
        refine anyL_take (i := 6) (v := ?v6) (atS (atS (atS (atS (atS (atS at0)))))) (by kernel_rfl) (by kernel_rfl) (by kernel_rfl) (by kernel_rfl) (fun _ _ _ h => h) rfl ?y6 HS3 ?r6
        case y6 => intro wx hx; obtain ⟨h1, h2⟩ := hx; go_simp; try (with_reducible rfl)
        simp only [Act.put, List.setIfInBounds_toArray, List.set_cons_zero, List.set_cons_succ]
        refine anyL_one (i := 7) (atS (atS (atS (atS (atS (atS (atS at0))))))) (by kernel_rfl) rfl (fun K hK => ?_)
        have q0 := HS3.1
        have q1 := HS3.2
        have HB4 : Hid (Below w.heap.size w w3) := HB1.out.trans (HB3.mono HB1.out.size)
        go_simp
        refine hK _ _ (.inr ⟨by go_cell, by go_cell⟩) ?_
        try simp only [Act.put, List.setIfInBounds_toArray, List.set_cons_zero, List.set_cons_succ]
        refine anyL_one (i := 8) (atS (atS (atS (atS (atS (atS (atS (atS at0)))))))) (by kernel_rfl) rfl (fun K hK => ?_)
        go_simp
        refine hK _ _ (.inr ⟨by go_cell, by go_cell⟩) (anyL_done (by kernel_rfl) (NoPanic.normal ?_))
        try simp only [Act.put, List.setIfInBounds_toArray, List.set_cons_zero, List.set_cons_succ]
        go_wp2
        exact bodyPost_ret (v := .tuple #[.agg #[.int .i64 n, .int .i64 q, .int .i64 (finN l)], .int .i64 0]) (by simp [results, Try.results12, go_sem, *]) rfl ⟨rfl, by (have h := HB4.out); go_grown⟩
  · rw [if_neg hr0] at hcs
    obtain ⟨rfl, rfl, rfl⟩ := hcs
    have hne : (r != 0) = true := by simpa using hr0
    clear hr
    go_enter Try.func12, Try.ntmps12
    go_wp2_with (first
      | (go_at_call 9; (with_reducible refine (fault_any _ (z, l) _ (HM.out.later (B := w.heap.size) (by go_grown) (Nat.le_refl _)) HK.out _ HR.out).mono ?_); rintro e w1 ⟨rfl, hb⟩; obtain ⟨s1, k0, k1, hb1⟩ := boxed2 hb (by simp); have HB1 : Hid (Below w.heap.size w w1) := hb1; have e0 := k1.cell 0 (v := .int .i64 0) rfl; have e1 := k1.cell 1 (v := .int .i64 0) rfl; have e2 := k1.cell 2 (v := .int .i64 0) rfl; have f0 := k1.fz 0; have f1 := k1.fz 1; have f2 := k1.fz 2; clear hb hb1 k0 k1))
    exact bodyPost_ret (v := .tuple #[.agg #[.int .i64 0, .int .i64 0, .int .i64 0], .int .i64 r]) (by simp [results, Try.results12, go_sem, *]) rfl ⟨rfl, by (have h := HB1.out); go_grown⟩
end Go.Proofs.Ytakpdoodbifkgaa.Wt
