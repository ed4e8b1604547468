/- The reference: a state moved, with other arcs behind its own. -/
import Derived.Test.YtfajkomajbhphaaRa
import Derived.Test.YtfajkomajbhphaaRg
namespace Go.Proofs.Ytfajkomajbhphaa.Wt
open Go.ChangeShapes Go.WideShapes Go.ChangeAt Go.RowKit
open Go.Proofs.Ytfajkomajbhphaa.Pl
set_option linter.unusedVariables false
set_option linter.unusedSimpArgs false
theorem res_shifted (tm : Array Value) (W : World) (R : Nat) (f : Int) (vs : Value) (hB : Blk W R #[.int .i64 f, vs] 44) (h2 : tm.getD 8 undef = .pointer (some ⟨R, 0, none⟩)) : (results Try.f29 tm).run Try.prog W = .ok (.agg #[.int .i64 f, vs]) W := by
  have c0 := hB.cell 0 (v := .int .i64 f) rfl
  have c1 := hB.cell 1 (v := vs) rfl
  simp only [Array.getD_eq_getD_getElem?] at h2
  simp [results, Try.results29, go_sem, h2, c0, c1]
def HeldMo (sb : Nat) (va : Value) (b o : Nat) (p : Ar) (w : World) : Prop := w.cell? ⟨sb, 1, none⟩ = some va ∧ w.cell? ⟨b, o, none⟩ = some (.int .i64 p.1) ∧ w.cell? ⟨b, o + 1, none⟩ = some (.int .i64 p.2.1) ∧ w.cell? ⟨b, o + 2, none⟩ = some (.int .i64 p.2.2.1) ∧ w.cell? ⟨b, o + 3, none⟩ = some (.int .i64 p.2.2.2)
set_option maxRecDepth 100000 in
set_option maxHeartbeats 3200000 in
theorem shifted_any (f0 d f : Int) (a am : Option Addr) (cap cm : Nat) (ar more : List Ar) (w : World) (h : Arcs w (.slice a ar.length cap) ar) (hm : Arcs w (.slice am more.length cm) more) (hl : ar.length ≤ 400) (hlm : more.length ≤ 400) (hd : 0 ≤ d ∧ d ≤ 1000) (hto : ∀ p ∈ ar, 0 ≤ p.2.2.2 ∧ p.2.2.2 ≤ 1000) :
    Calls Try.prog 29 #[.agg #[.int .i64 f0, .slice a ar.length cap], .int .i64 d, .int .i64 f, .slice am more.length cm] w fun e w' => ∃ v, e = .returned (.agg #[.int .i64 f, v]) ∧ OwnArcs w' w.heap.size v (ar.map (shA d) ++ more) ∧ Below w.heap.size w w' := by
  have HA : Hid (Arcs w (.slice a ar.length cap) ar) := h
  have HMO : Hid (Arcs w (.slice am more.length cm) more) := hm
  have HTO : Hid (∀ p ∈ ar, 0 ≤ p.2.2.2 ∧ p.2.2.2 ≤ 1000) := hto
  obtain ⟨n, hn⟩ : ∃ n, ar.length = n := ⟨_, rfl⟩
  obtain ⟨k2, hk2⟩ : ∃ k2, more.length = k2 := ⟨_, rfl⟩
  have HN : Hid (ar.length = n) := hn
  have HK2 : Hid (more.length = k2) := hk2
  rw [hn] at HA hl ⊢
  rw [hk2] at HMO hlm ⊢
  clear h hm hto hn hk2
  go_enter Try.func29, Try.ntmps29
  go_wp2
  go_loopw [10] (fun s10 wr => ∃ (k : Nat) (va : Value), s10 = .int .i64 k ∧ k ≤ n ∧ Hid (Blk wr w.heap.size #[.int .i64 f0, .slice a n cap] 44) ∧ Hid (Blk wr (w.heap.size + 1) #[.int .i64 0, .slice none 0 0] 44) ∧ Hid (Blk wr (w.heap.size + 1 + 1) #[.int .i64 f, va] 44) ∧ Hid (OwnArcs wr (w.heap.size + 3) va ((ar.take k).map (shA d))) ∧ Hid (Below w.heap.size w wr)) (fun s10 _ => n - (intOf s10).toNat)
  case atStart => exact ⟨0, .slice none 0 0, by go_num, Nat.zero_le _, blk_a w _ _ _ _, blk_b w _ _ _ _, blk_c w _ _ _ _, OwnArcs.nil _ _, hidP (by go_grown)⟩
  case round =>
    obtain ⟨k, va, rfl, hk, hs, hr, ho, hva, hb⟩ := hrel
    have hlw := ho.out.lt
    obtain ⟨a1, c1, hv1⟩ := hva.out.sl
    have hlen : ((ar.take k).map (shA d)).length = k := by rw [List.length_map, List.length_take, HN.out]; omega
    rw [hlen] at hv1
    subst hv1
    have d0 := hs.out.cell 1 (v := .slice a n cap) rfl
    by_cases hkn : k < n
    · have hkn' : (k : Int) < (n : Int) := by omega
      obtain ⟨b, off, ha, hbl, x0, x1, x2, x3⟩ := arcs_at (HA.out.later hb.out (Nat.le_refl _)) (j := k) (by rw [HN.out]; exact hkn)
      subst ha
      have HT := hidP (HTO.out _ (el_mem (l := ar) (j := k) (by rw [HN.out]; exact hkn)))
      have HST : Hid ((ar.take (k + 1)).map (shA d) = (ar.take k).map (shA d) ++ [shA d (el ar k)]) := el_mapA d (by rw [HN.out]; exact hkn)
      generalize el ar k = p at *
      obtain ⟨p0, p1, p2, p3⟩ := p
      simp only at x0 x1 x2 x3
      have hp3 : 0 ≤ p3 ∧ p3 ≤ 1000 := HT.out
      have hw3 : IntKind.i64.wrap (p3 + d) = p3 + d := wrapI (by omega) (by omega)
      obtain ⟨a4, c4, w4, hr4, ho4, hb4⟩ := OwnArcs.push (W := wr.alloc (.cells #[.int .i64 p0, .int .i64 p1, .int .i64 p2, .int .i64 p3] 60)) (base := w.heap.size + 3) (hva.out.later ((Below.refl _ _).alloc (Nat.le_refl _) _)) (p0, p1, p2, p3 + d) (by omega) (by simp; omega)
      simp only [hlen, World.size_alloc] at hr4 ho4
      have R4 := hidP hr4
      have HO4 := hidP ho4
      have HB4 : Hid (Below w.heap.size w w4) := (hb.out.alloc hb.out.size _).trans (hb4.mono (by omega))
      have hbb : Below (w.heap.size + 3) wr w4 := ((Below.refl _ _).alloc (by omega) _).trans hb4
      have S4 : Hid (Blk w4 w.heap.size #[.int .i64 f0, .slice (some ⟨b, off, none⟩) n cap] 44) := hs.out.below hbb (by omega)
      have R4b : Hid (Blk w4 (w.heap.size + 1) #[.int .i64 0, .slice none 0 0] 44) := hr.out.below hbb (by omega)
      have O4 : Hid (Blk w4 (w.heap.size + 1 + 1) #[.int .i64 f, .slice a1 k c1] 44) := ho.out.below hbb (by omega)
      have e1 := fun o => (ho.out.alloc o).cell 1 (v := .slice a1 k c1) rfl
      have e4 := O4.out.cell 1 (v := .slice a1 k c1) rfl
      have f4 := O4.out.fz 1
      clear hr4 ho4 hb4 hbb
      go_wp2_with (first
        | (at_builtin; refine wpListAppendRun rfl _ _ 42 rfl rfl rfl R4.out ?_; clear R4))
      go_roundw
      case rel => exact ⟨k + 1, _, by go_num, by omega, S4.out.setO ⟨w.heap.size + 1 + 1, 1, none⟩ _ (by show w.heap.size ≠ w.heap.size + 1 + 1; omega), R4b.out.setO ⟨w.heap.size + 1 + 1, 1, none⟩ _ (by show w.heap.size + 1 ≠ w.heap.size + 1 + 1; omega), O4.out.set 1 _, by rw [HST.out]; exact ownsRow_setCell_below HO4.out (a := ⟨w.heap.size + 1 + 1, 1, none⟩) (by show w.heap.size + 1 + 1 < _; omega) _, HB4.out.setCell (p := ⟨w.heap.size + 1 + 1, 1, none⟩) (by show w.heap.size ≤ w.heap.size + 1 + 1; omega) _⟩
      case measure => simp [intOf]; omega
    · have hkn' : ¬ (k : Int) < (n : Int) := by omega
      obtain rfl : k = n := by omega
      have hall : (ar.take k).map (shA d) = ar.map (shA d) := by rw [List.take_of_length_le (by rw [HN.out]; exact Nat.le_refl _)]
      rw [hall] at hva hlen
      obtain ⟨sh, hsh⟩ : ∃ sh, ar.map (shA d) = sh := ⟨_, rfl⟩
      have HSH := hidP hsh
      rw [hsh] at hva hlen
      clear hsh
      have HLN := hidP hlen
      clear hlen hall
      go_wp2
      obtain ⟨w3, rfl⟩ : ∃ w3, w3 = wr := ⟨_, rfl⟩
      go_loopw [12] (fun s12 wr => ∃ (j : Nat) (va : Value), s12 = .int .i64 j ∧ j ≤ k2 ∧ Hid (Blk wr (w.heap.size + 1) #[.int .i64 0, .slice none 0 0] 44) ∧ Hid (Blk wr (w.heap.size + 1 + 1) #[.int .i64 f, va] 44) ∧ Hid (OwnArcs wr (w.heap.size + 3) va (sh ++ more.take j)) ∧ Hid (Below w.heap.size w wr)) (fun s12 _ => k2 - (intOf s12).toNat)
      case atStart => exact ⟨0, .slice a1 k c1, by go_num, Nat.zero_le _, hr, ho, by rw [List.take_zero, List.append_nil]; exact hva, hb⟩
      case round =>
        clear hs hr ho hva hb d0 hlw
        obtain ⟨j, va, rfl, hj, hr, ho, hva, hb⟩ := hrel
        have hlw := ho.out.lt
        obtain ⟨a1, c1, hv1⟩ := hva.out.sl
        subst hv1
        by_cases hjk : j < k2
        · have hjk' : (j : Int) < (k2 : Int) := by omega
          have hj0 : (0 : Int) ≤ (j : Int) := by omega
          obtain ⟨b, off, ha, hbl, x0, x1, x2, x3⟩ := arcs_at HMO.out (j := j) (by rw [HK2.out]; exact hjk)
          subst ha
          have HST : Hid (sh ++ more.take (j + 1) = sh ++ more.take j ++ [el more j]) := by show _ = _; rw [take_el (by rw [HK2.out]; exact hjk), List.append_assoc]
          have hml : (sh ++ more.take j).length ≤ 800 := by rw [List.length_append, List.length_take, HLN.out]; omega
          generalize el more j = p at *
          obtain ⟨p0, p1, p2, p3⟩ := p
          simp only at x0 x1 x2 x3
          generalize sh ++ more.take j = cu at *
          obtain ⟨a4, c4, w4, hr4, ho4, hb4⟩ := OwnArcs.push (W := wr.drew) (base := w.heap.size + 3) hva.out (p0, p1, p2, p3) (by omega) (by show _ ≤ wr.heap.size; omega)
          have R4 := hidP hr4
          have HO4 := hidP ho4
          have HB4 : Hid (Below w.heap.size w w4) := hb.out.drew.trans (hb4.mono (by omega))
          have R4b : Hid (Blk w4 (w.heap.size + 1) #[.int .i64 0, .slice none 0 0] 44) := hr.out.drew.below hb4 (by omega)
          have O4 : Hid (Blk w4 (w.heap.size + 1 + 1) #[.int .i64 f, .slice a1 cu.length c1] 44) := ho.out.drew.below hb4 (by omega)
          have HX : ∀ W, Below w.heap.size w W → Blk W (w.heap.size + 1 + 1) #[.int .i64 f, .slice a1 cu.length c1] 44 → HeldMo (w.heap.size + 1 + 1) (.slice a1 cu.length c1) b (off + j * 4) (p0, p1, p2, p3) W := fun W hW hK => ⟨hK.cell 1 rfl, (hW.cell (p := ⟨b, off + j * 4, none⟩) hbl).trans x0, (hW.cell (p := ⟨b, off + j * 4 + 1, none⟩) hbl).trans x1, (hW.cell (p := ⟨b, off + j * 4 + 2, none⟩) hbl).trans x2, (hW.cell (p := ⟨b, off + j * 4 + 3, none⟩) hbl).trans x3⟩
          have HSD := HX wr.drew hb.out.drew ho.out.drew
          have HSA := HX (wr.drew.alloc (.cells #[.int .i64 p0, .int .i64 p1, .int .i64 p2, .int .i64 p3] 60)) (hb.out.drew.alloc hb.out.size _) (ho.out.drew.alloc _)
          have HS4 := HX w4 HB4.out O4.out
          have e4 := O4.out.cell 1 (v := .slice a1 cu.length c1) rfl
          have f4 := O4.out.fz 1
          clear hr4 ho4 hb4 HX
          go_wp2
          refine region_anyL (HeldMo (w.heap.size + 1 + 1) (.slice a1 cu.length c1) b (off + j * 4) (p0, p1, p2, p3)) 9 (by kernel_rfl) ?_
          refine anyL_take (i := 0) (v := ?v0_1) at0 (by kernel_rfl) (by kernel_rfl) (by kernel_rfl) (by kernel_rfl) (fun _ _ _ h => h) rfl ?y0_1 HSD ?r0_1
          case y0_1 => intro wx hx; obtain ⟨h0, h1, h2, h3, h4⟩ := hx; go_simp; try (with_reducible rfl)
          simp only [Act.put, List.setIfInBounds_toArray, List.set_cons_zero, List.set_cons_succ]
          refine anyL_take (i := 1) (v := ?v1_2) (atS at0) (by kernel_rfl) (by kernel_rfl) (by kernel_rfl) (by kernel_rfl) (fun _ _ _ h => h) rfl ?y1_2 HSD ?r1_2
          case y1_2 => intro wx hx; obtain ⟨h0, h1, h2, h3, h4⟩ := hx; go_simp; try (with_reducible rfl)
          simp only [Act.put, List.setIfInBounds_toArray, List.set_cons_zero, List.set_cons_succ]
          refine anyL_take (i := 2) (v := ?v2_3) (atS (atS at0)) (by kernel_rfl) (by kernel_rfl) (by kernel_rfl) (by kernel_rfl) (fun _ _ _ h => h) rfl ?y2_3 HSD ?r2_3
          case y2_3 => intro wx hx; obtain ⟨h0, h1, h2, h3, h4⟩ := hx; go_simp; try (with_reducible rfl)
          simp only [Act.put, List.setIfInBounds_toArray, List.set_cons_zero, List.set_cons_succ]
          refine anyL_take (i := 3) (v := ?v3_4) (atS (atS (atS at0))) (by kernel_rfl) (by kernel_rfl) (by kernel_rfl) (by kernel_rfl) (fun _ _ _ h => h) rfl ?y3_4 HSD ?r3_4
          case y3_4 => intro wx hx; obtain ⟨h0, h1, h2, h3, h4⟩ := hx; go_simp; try (with_reducible rfl)
          simp only [Act.put, List.setIfInBounds_toArray, List.set_cons_zero, List.set_cons_succ]
          refine anyL_take (i := 4) (v := ?v4_5) (atS (atS (atS (atS at0)))) (by kernel_rfl) (by kernel_rfl) (by kernel_rfl) (by kernel_rfl) (fun _ _ _ h => h) rfl ?y4_5 HSD ?r4_5
          case y4_5 => intro wx hx; obtain ⟨h0, h1, h2, h3, h4⟩ := hx; go_simp; try (with_reducible rfl)
          simp only [Act.put, List.setIfInBounds_toArray, List.set_cons_zero, List.set_cons_succ]
          refine anyL_take (i := 5) (v := ?v5_6) (atS (atS (atS (atS (atS at0))))) (by kernel_rfl) (by kernel_rfl) (by kernel_rfl) (by kernel_rfl) (fun _ _ _ h => h) rfl ?y5_6 HSD ?r5_6
          case y5_6 => intro wx hx; obtain ⟨h0, h1, h2, h3, h4⟩ := hx; go_simp; try (with_reducible rfl)
          simp only [Act.put, List.setIfInBounds_toArray, List.set_cons_zero, List.set_cons_succ]
          refine anyL_one (i := 6) (atS (atS (atS (atS (atS (atS at0)))))) (by kernel_rfl) rfl (fun K hK => ?_)
          go_simp
          refine hK _ _ (.inr HSA) ?_
          try simp only [Act.put, List.setIfInBounds_toArray, List.set_cons_zero, List.set_cons_succ]
          refine anyL_one (i := 7) (atS (atS (atS (atS (atS (atS (atS at0))))))) (by kernel_rfl) rfl (fun K hK => ?_)
          refine wp_append_run (.tmp 50) (.tmp 55) 42 rfl rfl rfl R4.out ?_
          refine hK _ _ (.inr HS4) ?_
          try simp only [Act.put, List.setIfInBounds_toArray, List.set_cons_zero, List.set_cons_succ]
          refine anyL_one (i := 8) (atS (atS (atS (atS (atS (atS (atS (atS at0)))))))) (by kernel_rfl) rfl (fun K hK => ?_)
          go_simp
          refine hK _ _ (.inr HS4) ?_
          try simp only [Act.put, List.setIfInBounds_toArray, List.set_cons_zero, List.set_cons_succ]
          refine anyL_one (i := 9) (atS (atS (atS (atS (atS (atS (atS (atS (atS at0))))))))) (by kernel_rfl) rfl (fun K hK => ?_)
          go_simp
          refine hK _ _ (.inl rfl) (anyL_done (by kernel_rfl) (NoPanic.normal ?_))
          try simp only [Act.put, List.setIfInBounds_toArray, List.set_cons_zero, List.set_cons_succ]
          clear HSD HSA HS4
          go_wp2
          go_roundw
          case rel => exact ⟨j + 1, _, by go_num, by omega, R4b.out.setO ⟨w.heap.size + 1 + 1, 1, none⟩ _ (by show w.heap.size + 1 ≠ w.heap.size + 1 + 1; omega), O4.out.set 1 _, by rw [HST.out]; exact ownsRow_setCell_below HO4.out (a := ⟨w.heap.size + 1 + 1, 1, none⟩) (by show w.heap.size + 1 + 1 < _; omega) _, HB4.out.setCell (p := ⟨w.heap.size + 1 + 1, 1, none⟩) (by show w.heap.size ≤ w.heap.size + 1 + 1; omega) _⟩
          case measure => simp [intOf]; omega
        · have hjk' : ¬ (j : Int) < (k2 : Int) := by omega
          obtain rfl : j = k2 := by omega
          have hall2 : more.take j = more := List.take_of_length_le (by rw [HK2.out]; exact Nat.le_refl _)
          rw [hall2] at hva ho
          have o0 := ho.out.cell 0 (v := .int .i64 f) rfl
          have o1 := ho.out.cell 1 (v := .slice a1 (sh ++ more).length c1) rfl
          have r0 := hr.out.cell 0 (v := .int .i64 0) rfl
          have r1 := hr.out.cell 1 (v := .slice none 0 0) rfl
          have g0 := hr.out.fz 0
          have g1 := hr.out.fz 1
          clear hall2
          generalize hcl : (sh ++ more).length = cl at *
          have HCL := hidP hcl
          clear hcl
          go_wp2
          refine bodyPost_ret (res_shifted _ _ (w.heap.size + 1) f (.slice a1 cl c1) ((hr.out.set 0 (.int .i64 f)).set 1 (.slice a1 cl c1)) rfl) rfl ⟨_, rfl, ?_, ?_⟩
          · have q1 : OwnArcs (wr.setCell ⟨w.heap.size + 1, 0, none⟩ (.int .i64 f)) (w.heap.size + 3) (.slice a1 cl c1) (sh ++ more) := ownsRow_setCell_below hva.out (a := ⟨w.heap.size + 1, 0, none⟩) (by show w.heap.size + 1 < w.heap.size + 3; omega) _
            have q2 : OwnArcs ((wr.setCell ⟨w.heap.size + 1, 0, none⟩ (.int .i64 f)).setCell ⟨w.heap.size + 1, 1, none⟩ (.slice a1 cl c1)) (w.heap.size + 3) (.slice a1 cl c1) (sh ++ more) := ownsRow_setCell_below q1 (a := ⟨w.heap.size + 1, 1, none⟩) (by show w.heap.size + 1 < w.heap.size + 3; omega) _
            rw [HSH.out]
            exact ownMono q2 (by omega)
          · exact (hb.out.setCell (p := ⟨w.heap.size + 1, 0, none⟩) (by show w.heap.size ≤ w.heap.size + 1; omega) _).setCell (p := ⟨w.heap.size + 1, 1, none⟩) (by show w.heap.size ≤ w.heap.size + 1; omega) _
end Go.Proofs.Ytfajkomajbhphaa.Wt
