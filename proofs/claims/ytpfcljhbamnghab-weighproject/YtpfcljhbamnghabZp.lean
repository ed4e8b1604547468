/- weigh.Reads: what a word costs, whatever is written. -/
import Derived.Test.YtpfcljhbamnghabWz
import Derived.Test.YtpfcljhbamnghabZk
namespace Go.Proofs.Ytpfcljhbamnghab.Wt
open Go.ChangeShapes Go.WideShapes Go.ChangeAt Go.RowKit
open Go.Proofs.Ytpfcljhbamnghab.Pl
set_option linter.unusedVariables false
set_option linter.unusedSimpArgs false
set_option maxRecDepth 100000 in
set_option maxHeartbeats 1600000 in
theorem readsWP_any (v vx : Value) (m : Mc) (x : List Int) (w : World) (h : Mach w v m) (hok : okM m) (nx : Nums w vx x) :
    Calls Try.prog 16 #[v, vx] w fun e w' => ∃ n ec : Int, e = .returned (.tuple #[.int .i64 n, .int .i64 ec]) ∧ WgR (CostsR m x) (wghE1 m x) n ec ∧ Below w.heap.size w w' := by
  obtain ⟨z, l⟩ := m
  have HM : Hid (Mach w v (z, l)) := h
  obtain ⟨vs, rfl, hS⟩ := h
  obtain ⟨a, cap, rfl⟩ := hS.sl
  obtain ⟨ax, cx, hvx, _⟩ := nx.get
  have HCA : Hid (∀ W b, Below w.heap.size w W → Blk W b #[vx] 25 → Calls Try.prog 31 #[.agg #[.int .i64 z, .slice a l.length cap], .slice (some ⟨b, 0, none⟩) 1 1] W fun e w' => e = .returned (.int .i64 (wghE1 (z, l) x)) ∧ Below W.heap.size W w') := fun W b hW hb => checkAll_any _ (z, l) b [vx] [x] 1 W (HM.out.later hW (Nat.le_refl _)) hok (words1 hb (nx.later hW (Nat.le_refl _))) rfl (by omega) _ (by unfold allE wghE1; rw [wds_one])
  have HGD : Hid (wghE1 (z, l) x = 0 → faultM (z, l) = 0 ∧ x.length ≤ 12) := fun h0 => by
    unfold wghE1 at h0
    have hf : faultM (z, l) = 0 := by
      by_cases g : faultM (z, l) = 0
      · exact g
      · rw [if_pos g] at h0; exact h0
    rw [if_neg (by simp [hf])] at h0
    exact ⟨hf, (wrd_parts h0).1⟩
  have HSI : Hid (wghE1 (z, l) x = 0 → ∀ W, Below w.heap.size w W → Calls Try.prog 33 #[.agg #[.int .i64 z, .slice a l.length cap]] W fun e w' => ∃ v', e = .returned v' ∧ MachFrom W.heap.size w' v' (silM (z, l)) ∧ Below W.heap.size W w') := fun h0 W hW => silent_any _ (z, l) W (HM.out.later hW (Nat.le_refl _)) (HGD.out h0).1
  have HCO : Hid (wghE1 (z, l) x = 0 → ∀ W v', Below w.heap.size w W → Mach W v' (silM (z, l)) → Calls Try.prog 32 #[v', vx, .slice none 0 0] W fun e w' => ∃ n ec : Int, e = .returned (.tuple #[.int .i64 n, .int .i64 ec]) ∧ WghAns (CostsR (z, l) x) n ec ∧ Below W.heap.size W w') := fun h0 W v' hW hv' => by
    have h9 := costP_any v' vx (.slice none 0 0) (silM (z, l)) x [] W hv' (sil_right (HGD.out h0).1) (nx.later hW (Nat.le_refl _)) (.inl ⟨rfl, rfl⟩) (HGD.out h0).2 (by simp)
    refine h9.mono ?_
    rintro e w' ⟨n, ec, rfl, h1, h2⟩
    exact ⟨n, ec, rfl, h1.congr (costs_sil (z, l) x), h2⟩
  have k1 := Blk.made (w.alloc (.cells #[.int .i64 z, .slice a l.length cap] 28)) #[vx] 25
  have k2 : Below w.heap.size w ((w.alloc (.cells #[.int .i64 z, .slice a l.length cap] 28)).alloc (.cells #[vx] 25)) := ((Below.refl w.heap.size w).alloc (Nat.le_refl _) _).alloc (by simp) _
  simp only [World.size_alloc] at k1
  have HC0 := hidP (HCA.out _ _ k2 k1)
  clear hS hok nx HM k1 k2 HCA HGD
  generalize l.length = ln at *
  unfold WgR
  simp only
  generalize wghE1 (z, l) x = r at *
  generalize CostsR (z, l) x = P at *
  generalize silM (z, l) = sm at *
  subst hvx
  by_cases hr : r = 0
  · subst hr
    have HCO2 := hidP (HCO.out rfl)
    have HSI2 := hidP (HSI.out rfl)
    simp only [if_true]
    clear HCO HSI
    go_enter Try.func16, Try.ntmps16
    go_wp2_with (first
      | (go_at_call 31; (with_reducible refine HC0.out.mono ?_); rintro e1 w1 ⟨rfl, hb⟩; obtain ⟨s1, b1, _, hb1⟩ := boxedTwo hb (by simp); have HB1 := hidP hb1; have c0 := b1.cell 0 (v := .int .i64 z) rfl; have c1 := b1.cell 1 (v := .slice a ln cap) rfl; clear hb b1 hb1)
      | (go_at_call 33; (with_reducible refine (HSI2.out _ HB1.out).mono ?_); rintro e1 w2 ⟨v2, rfl, hm2, hb2⟩; have HM2 := hidP hm2.mach; have HB2 := hidP (HB1.out.trans (hb2.mono HB1.out.size)); obtain ⟨a9, c9, hv9⟩ := hm2.sl; subst hv9; clear hm2 hb2)
      | (go_at_call 32; (with_reducible refine (HCO2.out _ _ HB2.out HM2.out).mono ?_); rintro e1 w3 ⟨n, ec, rfl, ha, hb3⟩; have HA := hidP ha; have HB3 := hidP (HB2.out.trans (hb3.mono HB2.out.size)); clear ha hb3))
    exact bodyPost_ret (v := .tuple #[.int .i64 n, .int .i64 ec]) (by simp [results, Try.results16, go_sem, *]) rfl ⟨n, ec, rfl, HA.out, HB3.out⟩
  · simp only [if_neg hr]
    clear HCO HSI
    go_enter Try.func16, Try.ntmps16
    go_wp2_with (first
      | (go_at_call 31; (with_reducible refine HC0.out.mono ?_); rintro e1 w1 ⟨rfl, hb⟩; obtain ⟨s1, b1, _, hb1⟩ := boxedTwo hb (by simp); have HB1 := hidP hb1; clear hb b1 hb1))
    exact bodyPost_ret (v := .tuple #[.int .i64 0, .int .i64 r]) (by simp [results, Try.results16, go_sem, *]) rfl ⟨0, r, rfl, ⟨rfl, rfl⟩, HB1.out⟩
end Go.Proofs.Ytpfcljhbamnghab.Wt
