/- What the program's check answers: is the machine right, and may the run be for it? -/
import Derived.Test.YtkeeiihaijhdoaaSkd
import Derived.Test.YtkeeiihaijhdoaaMcV
namespace Go.Proofs.Ytkeeiihaijhdoaa.Sm
open Go.ChangeShapes Go.WideShapes Go.ChangeAt Go.RowKit
open Go.Proofs.Ytkeeiihaijhdoaa.Pl Go.Proofs.Ytkeeiihaijhdoaa.Wt
set_option linter.unusedVariables false
set_option linter.unusedSimpArgs false
/-- What is wrong with a machine and a run. -/
def chkA (m : Mc) (r : Ru) : Int := if faultM m ≠ 0 then faultM m else if runB m.2.length r = true then 0 else 13
theorem mkIs_of {w : World} {q x : Int} {vo : Value} {o : List Int} (h : Nums w vo o) : MkIs w (.agg #[.int .i64 q, .int .i64 x, vo]) (q, x, o) := ⟨vo, rfl, h⟩
set_option maxRecDepth 100000 in
set_option maxHeartbeats 1600000 in
theorem check_any (v vr : Value) (m : Mc) (r : Ru) (w : World) (h : Mach w v m) (hok : okM m) (hr : RunV w vr r) (hou : okU r) (x : Int) (hx : chkA m r = x) :
    Calls Try.prog 35 #[v, vr] w fun e w' => e = .returned (.int .i64 x) ∧ Below w.heap.size w w' := by
  have HM : Hid (Mach w v m) := h
  have HK := hidP hok
  have HL : Hid (r.2.length * 40 ≤ 140737488351232) := hou.1
  obtain ⟨z, l⟩ := m
  obtain ⟨vs, rfl, hS⟩ := h
  obtain ⟨a, cap, rfl⟩ := hS.sl
  obtain ⟨f, ml⟩ := r
  obtain ⟨vm, rfl, hMk⟩ := hr
  have HR : Hid (Marks w vm ml) := hMk
  have HRv : Hid (RunV w (.agg #[.int .i64 f, vm]) (f, ml)) := ⟨_, rfl, hMk⟩
  obtain ⟨am, cm, rfl, hc⟩ := hMk.get
  have HC : Hid (∀ j, j < ml.length → ∃ b off vo, am = some ⟨b, off, none⟩ ∧ b < w.heap.size ∧ w.cell? ⟨b, off + j * 3, none⟩ = some (.int .i64 (el ml j).1) ∧ w.cell? ⟨b, off + j * 3 + 1, none⟩ = some (.int .i64 (el ml j).2.1) ∧ w.cell? ⟨b, off + j * 3 + 2, none⟩ = some vo ∧ Nums w vo (el ml j).2.2) := hc
  clear hS hok hou hMk hc
  simp only at HM HK HL ⊢
  have hnot : ∀ (x : Bool) (w : World), (Op.unary .not (.bool x)).run Try.prog w = .ok (.bool (!x)) w := fun _ _ => rfl
  have HU : Hid (Below w.heap.size w ((w.alloc (.cells #[.int .i64 z, .slice a l.length cap] 24)).alloc (.cells #[.int .i64 f, .slice am ml.length cm] 28))) := by show Below _ _ _; go_grown
  have hx' : chkA (z, l) (f, ml) = x := hx
  unfold chkA at hx'
  simp only at hx'
  by_cases hf : faultM (z, l) = 0
  · have h60 := (right_size hf).1
    rw [if_neg (by omega)] at hx'
    have hrun : runB l.length (f, ml) = (inB f 0 12 && risB l.length 0 ml && ml.all mkB) := rfl
    have HX := hidP hx'
    have HF := hidP hf
    have HRU := hidP hrun
    clear hx hx' hf hrun
    have ways : f < 0 ∨ (¬ f < 0 ∧ (12 : Int) < f) ∨ (¬ f < 0 ∧ ¬ (12 : Int) < f) := by omega
    rcases ways with h1 | ⟨h1, h2⟩ | ⟨h1, h2⟩
    · have hb : x = 13 := by rw [← HX.out, HRU.out, show inB f 0 12 = false by simp [inB]; omega]; simp
      subst hb
      go_enter Try.func35, Try.ntmps35
      go_wp2_with (first
        | (go_at_call 27; (with_reducible refine (coreCheck_any _ (z, l) _ (HM.out.later HU.out (Nat.le_refl _)) HK.out 0 HF.out).mono ?_); rintro e w1 ⟨rfl, hb⟩; obtain ⟨s1, b1, b2, hb1⟩ := boxedTwo hb (by simp); have HB1 : Hid (Below w.heap.size w w1) := hb1; have c0 := b1.cell 0 (v := .int .i64 z) rfl; have c1 := b1.cell 1 (v := .slice a l.length cap) rfl; have c2 := b2.cell 0 (v := .int .i64 f) rfl; have c3 := b2.cell 1 (v := .slice am ml.length cm) rfl; clear hb hb1 b1 b2))
      go_ret
      exact ⟨rfl, HB1.out⟩
    · have hb : x = 13 := by rw [← HX.out, HRU.out, show inB f 0 12 = false by simp [inB]; omega]; simp
      subst hb
      go_enter Try.func35, Try.ntmps35
      go_wp2_with (first
        | (go_at_call 27; (with_reducible refine (coreCheck_any _ (z, l) _ (HM.out.later HU.out (Nat.le_refl _)) HK.out 0 HF.out).mono ?_); rintro e w1 ⟨rfl, hb⟩; obtain ⟨s1, b1, b2, hb1⟩ := boxedTwo hb (by simp); have HB1 : Hid (Below w.heap.size w w1) := hb1; have c0 := b1.cell 0 (v := .int .i64 z) rfl; have c1 := b1.cell 1 (v := .slice a l.length cap) rfl; have c2 := b2.cell 0 (v := .int .i64 f) rfl; have c3 := b2.cell 1 (v := .slice am ml.length cm) rfl; clear hb hb1 b1 b2))
      go_ret
      exact ⟨rfl, HB1.out⟩
    · have HG : Hid ((if (risB l.length 0 ml && ml.all mkB) = true then (0 : Int) else 13) = x) := by
        show _ = _
        rw [← HX.out, HRU.out, show inB f 0 12 = true by simp [inB]; omega, Bool.true_and]
      clear HX HRU
      by_cases h3 : risB l.length 0 ml = true
      · have HG2 : Hid ((if ml.all mkB = true then (0 : Int) else 13) = x) := by show _ = _; rw [← HG.out, h3, Bool.true_and]
        have HR3 := hidP h3
        clear HG h3
        have HS : Hid (∀ k, k < ml.length → (ml.drop k).all mkB = (mkB (el ml k) && (ml.drop (k + 1)).all mkB)) := fun k hk => all_drop hk
        have HE : Hid ((ml.drop ml.length).all mkB = true) := by rw [List.drop_length]; rfl
        have HG3 : Hid ((if (ml.drop 0).all mkB = true then (0 : Int) else 13) = x) := HG2.out
        clear HG2
        generalize hL : ml.length = L at *
        have HLL := hidP hL
        clear hL
        have hL40 : L * 40 ≤ 140737488351232 := HL.out
        go_enter Try.func35, Try.ntmps35
        go_wp2_with (first
          | (go_at_call 27; (with_reducible refine (coreCheck_any _ (z, l) _ (HM.out.later HU.out (Nat.le_refl _)) HK.out 0 HF.out).mono ?_); rintro e w1 ⟨rfl, hb⟩; obtain ⟨s1, b1, b2, hb1⟩ := boxedTwo hb (by simp); have HB1 : Hid (Below w.heap.size w w1) := hb1; have c0 := b1.cell 0 (v := .int .i64 z) rfl; have c1 := b1.cell 1 (v := .slice a l.length cap) rfl; have c2 := b2.cell 0 (v := .int .i64 f) rfl; have c3 := b2.cell 1 (v := .slice am L cm) rfl; have f0 := b1.fz 0; have f1 := b1.fz 1; clear hb hb1 b1 b2)
          | (go_at_call 58; (with_reducible refine (rises_any z _ _ l.length ml _ a cap rfl (HR.out.later HB1.out (Nat.le_refl _)) (by rw [HLL.out]; exact HL.out) (by omega)).mono ?_); rintro e w2 ⟨rfl, hb⟩; rw [HR3.out]; have d0 := low c0 hb; have d1 := low c1 hb; have d2 := low c2 hb; have d3 := low c3 hb; have HB2 : Hid (Below w.heap.size w w2) := HB1.out.trans (hb.mono HB1.out.size); clear hb))
        go_loopw [31] (fun i wr => ∃ k : Nat, k ≤ L ∧ i = .int .i64 k ∧ Hid ((if (ml.drop k).all mkB = true then (0 : Int) else 13) = x) ∧ Hid (Below w.heap.size w wr)) (fun i _ => L - (intOf i).toNat)
        case atStart => exact ⟨0, Nat.zero_le _, rfl, HG3, HB2⟩
        case round =>
          clear HG3 d0 d1 d2 d3 c0 c1 c2 c3
          obtain ⟨k, hk, rfl, hg, hbw⟩ := hrel
          by_cases hlt : k < L
          · obtain ⟨b, off, vo, rfl, hbl, g0, g1, g2, hno⟩ := HC.out k hlt
            have hk0 : (0 : Int) ≤ (k : Int) := by omega
            have hk1 : (k : Int) < (L : Int) := by omega
            obtain ⟨ao, co, rfl⟩ := Row.sl hno
            have g0 := (hbw.out.cell (p := ⟨b, off + k * 3, none⟩) hbl).trans g0
            have g1 := (hbw.out.cell (p := ⟨b, off + k * 3 + 1, none⟩) hbl).trans g1
            have g2 := (hbw.out.cell (p := ⟨b, off + k * 3 + 2, none⟩) hbl).trans g2
            have HNo : Hid (Nums wr (.slice ao (el ml k).2.2.length co) (el ml k).2.2) := hno.later hbw.out (Nat.le_refl _)
            have HN : Hid ((if (mkB (el ml k) && (ml.drop (k + 1)).all mkB) = true then (0 : Int) else 13) = x) := by show _ = x; rw [← HS.out k hlt]; exact hg.out
            have HU2 : Hid (Below wr.heap.size wr (wr.alloc (.cells #[.int .i64 (el ml k).1, .int .i64 (el ml k).2.1, .slice ao (el ml k).2.2.length co] 67))) := by show Below _ _ _; go_grown
            have z2 : b < wr.heap.size := Nat.lt_of_lt_of_le hbl hbw.out.size
            clear hg hno hbl
            generalize el ml k = p at *
            obtain ⟨p0, p1, p2⟩ := p
            simp only at g0 g1 g2 HNo HN HU2
            by_cases hm : mkB (p0, p1, p2) = true
            · have HN' : Hid ((if (ml.drop (k + 1)).all mkB = true then (0 : Int) else 13) = x) := by show _ = x; rw [← HN.out, hm, Bool.true_and]
              have HMB := hidP hm
              clear HN hm
              go_wp2_with (first
                | (go_at_call 59; (with_reducible refine (mayBe_any _ (p0, p1, p2) _ (mkIs_of (HNo.out.later HU2.out (Nat.le_refl _)))).mono ?_); rintro e w3 ⟨rfl, hb⟩; rw [HMB.out]; have HB3 : Hid (Below wr.heap.size wr w3) := HU2.out.trans (hb.mono HU2.out.size); clear hb))
              go_roundw
              case rel => exact ⟨k + 1, by omega, by go_num, HN', hbw.out.trans (HB3.out.mono hbw.out.size)⟩
              case measure => simp [intOf]; omega
            · have hx13 : x = 13 := by rw [← HN.out]; simp [hm]
              have HMB : Hid (mkB (p0, p1, p2) = false) := by show _ = _; simpa using hm
              subst hx13
              clear HN hm
              go_wp2_with (first
                | (go_at_call 59; (with_reducible refine (mayBe_any _ (p0, p1, p2) _ (mkIs_of (HNo.out.later HU2.out (Nat.le_refl _)))).mono ?_); rintro e w3 ⟨rfl, hb⟩; rw [HMB.out]; have HB3 : Hid (Below wr.heap.size wr w3) := HU2.out.trans (hb.mono HU2.out.size); clear hb))
              go_ret
              exact ⟨rfl, hbw.out.trans (HB3.out.mono hbw.out.size)⟩
          · have hnl : ¬ (k : Int) < (L : Int) := by omega
            have hkn : k = L := by omega
            have hx0 : x = 0 := by rw [← hg.out, hkn, HE.out]; rfl
            subst hx0
            clear hg
            go_wp2
            go_ret
            exact ⟨rfl, hbw.out⟩
      · have hb : x = 13 := by rw [← HG.out]; simp [h3]
        have HR3 : Hid (risB l.length 0 ml = false) := by show _ = _; simpa using h3
        subst hb
        clear HG h3
        go_enter Try.func35, Try.ntmps35
        go_wp2_with (first
          | (go_at_call 27; (with_reducible refine (coreCheck_any _ (z, l) _ (HM.out.later HU.out (Nat.le_refl _)) HK.out 0 HF.out).mono ?_); rintro e w1 ⟨rfl, hb⟩; obtain ⟨s1, b1, b2, hb1⟩ := boxedTwo hb (by simp); have HB1 : Hid (Below w.heap.size w w1) := hb1; have c0 := b1.cell 0 (v := .int .i64 z) rfl; have c1 := b1.cell 1 (v := .slice a l.length cap) rfl; have c2 := b2.cell 0 (v := .int .i64 f) rfl; have c3 := b2.cell 1 (v := .slice am ml.length cm) rfl; have f0 := b1.fz 0; have f1 := b1.fz 1; clear hb hb1 b1 b2)
          | (go_at_call 58; (with_reducible refine (rises_any z _ _ l.length ml _ a cap rfl (HR.out.later HB1.out (Nat.le_refl _)) HL.out (by omega)).mono ?_); rintro e w2 ⟨rfl, hb⟩; rw [HR3.out]; have HB2 : Hid (Below w.heap.size w w2) := HB1.out.trans (hb.mono HB1.out.size); clear hb))
        go_ret
        exact ⟨rfl, HB2.out⟩
  · rw [if_pos hf] at hx'
    subst hx'
    have HF : Hid (faultM (z, l) = faultM (z, l)) := rfl
    clear hx
    generalize hq : faultM (z, l) = q at *
    have HQ := hidP hq
    clear hq HF
    go_enter Try.func35, Try.ntmps35
    go_wp2_with (first
      | (go_at_call 27; (with_reducible refine (coreCheck_any _ (z, l) _ (HM.out.later HU.out (Nat.le_refl _)) HK.out q HQ.out).mono ?_); rintro e w1 ⟨rfl, hb⟩; obtain ⟨s1, b1, b2, hb1⟩ := boxedTwo hb (by simp); have HB1 : Hid (Below w.heap.size w w1) := hb1; clear hb hb1 b1 b2))
    go_ret
    exact ⟨rfl, HB1.out⟩
end Go.Proofs.Ytkeeiihaijhdoaa.Sm
