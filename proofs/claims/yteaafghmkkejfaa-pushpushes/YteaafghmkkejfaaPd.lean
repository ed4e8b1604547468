/- The program's Pull, where the machine is right. -/
import Derived.Test.YteaafghmkkejfaaPb
import Derived.Test.YteaafghmkkejfaaJ15s
import Derived.Test.YteaafghmkkejfaaJ15u
namespace Go.Proofs.Yteaafghmkkejfaa.Wt
open Go.ChangeShapes Go.WideShapes Go.ChangeAt Go.RowKit
open Go.Proofs.Yteaafghmkkejfaa.Pl
set_option linter.unusedVariables false
set_option linter.unusedSimpArgs false
theorem pulNo {total : Int} {l : List St} (h : ∀ q, q < l.length → (morR (el l q).1 total).2 = 0) : pulO total l = false := by
  unfold pulO
  rw [List.any_eq_false]
  intro s hs
  obtain ⟨q, hq, e⟩ := List.getElem_of_mem hs
  have := h q hq
  rw [el_get hq, e] at this
  unfold morR at this
  by_cases h1 : s.1 = 1000000001
  · simp [h1]
  · rw [if_neg h1] at this
    by_cases h2 : 1000000000 < s.1 + total
    · rw [if_pos h2] at this; cases this
    · simp [h2]
theorem pulYes {total : Int} {l : List St} {q : Nat} (hq : q < l.length) (h : ¬ (morR (el l q).1 total).2 = 0) : pulO total l = true ∧ morR (el l q).1 total = (0, 4) := by
  unfold morR at h ⊢
  by_cases h1 : (el l q).1 = 1000000001
  · rw [if_pos h1] at h; exact absurd rfl h
  · rw [if_neg h1] at h ⊢
    by_cases h2 : 1000000000 < (el l q).1 + total
    · rw [if_pos h2]
      refine ⟨?_, rfl⟩
      unfold pulO
      rw [List.any_eq_true]
      exact ⟨_, el_mem hq, by simp [h1, h2]⟩
    · rw [if_neg h2] at h; exact absurd rfl h
theorem pulFin {total f : Int} (h : (morR f total).2 = 0) : morR f total = (pulF total f, 0) := by
  unfold morR at h ⊢
  unfold pulF
  by_cases h1 : f = 1000000001
  · rw [if_pos h1, if_pos h1]
  · rw [if_neg h1] at h
    rw [if_neg h1, if_neg h1]
    by_cases h2 : 1000000000 < f + total
    · rw [if_pos h2] at h; cases h
    · rw [if_neg h2]
theorem own_states {w : World} {base : Nat} {v : Value} {l : List St} (h : OwnSts w base v l) : ∃ a cap, v = .slice a l.length cap ∧ ∀ j, j < l.length → ∃ b off va, a = some ⟨b, off, none⟩ ∧ b < w.heap.size ∧ w.cell? ⟨b, off + j * 2, none⟩ = some (.int .i64 (el l j).1) ∧ w.cell? ⟨b, off + j * 2 + 1, none⟩ = some va ∧ w.ownsRow base 56 4 va (el l j).2.length ((el l j).2.flatMap encA) := by
  obtain ⟨vs, h1, h2, h3⟩ := h
  have hR : Row 2 encS w v vs := Row.ofOwn encS_len h1 rfl
  by_cases hz : 0 < l.length
  · obtain ⟨b, off, cap, hv, hb, hc⟩ := Row.plain hR (fun x => by rw [encS_len]; omega) (by omega)
    refine ⟨_, cap, by rw [← h2]; exact hv, fun j hj => ⟨b, off, (el vs j).2, rfl, hb, ?_, hc j (by omega) 1 _ rfl, (h3 j hj).2⟩⟩
    rw [← (h3 j hj).1]
    exact hc j (by omega) 0 _ rfl
  · obtain ⟨a, cap, hv⟩ := Row.sl hR
    exact ⟨a, cap, by rw [← h2]; exact hv, fun j hj => by omega⟩
def pulS (total : Int) (s : St) : St := (pulF total s.1, s.2)
set_option maxRecDepth 100000 in
set_option maxHeartbeats 6400000 in
theorem pullP_ok (v : Value) (m : Mc) (total : Int) (w : World) (h : Mach w v m) (hok : okM m) (hr : faultM m = 0) (hp0 : 0 ≤ total) (hp1 : total ≤ 1000000000) :
    Calls Try.prog 11 #[v, .int .i64 total] w fun e w' => PulRes (PulAns m total) w e w' := by
  obtain ⟨z, l⟩ := m
  have HM : Hid (Mach w v (z, l)) := h
  have HK : Hid (okM (z, l)) := hok
  have HR := hidP hr
  have hin : inB total 0 1000000000 = true := by simp [inB]; omega
  have HTF : Hid (∀ aa bs, faultM (trimM z l (keptL aa bs l.length)) = 0) := fun aa bs => trim_fault (aa := aa) (bs := bs) hr
  have HAO : Hid (∀ aa bs, Least (AheadC z l) l.length aa → Least (BackC l) l.length bs → pulO total (trimM z l (keptL aa bs l.length)).2 = true → PulAns (z, l) total (0, []) 4) := fun aa bs hA hB ho => .inr (.inr ⟨hr, hin, aa, bs, hA, hB, .inl ⟨ho, rfl, rfl⟩⟩)
  have HAG : Hid (∀ aa bs, Least (AheadC z l) l.length aa → Least (BackC l) l.length bs → pulO total (trimM z l (keptL aa bs l.length)).2 = false → PulAns (z, l) total (pulM total (trimM z l (keptL aa bs l.length))) 0) := fun aa bs hA hB ho => .inr (.inr ⟨hr, hin, aa, bs, hA, hB, .inr ⟨ho, rfl, rfl⟩⟩)
  obtain ⟨vs0, rfl, hS⟩ := h
  obtain ⟨a, cap, rfl⟩ := hS.sl
  clear hS hok hr hin
  have p0 : ¬ total < 0 := by omega
  have p1 : ¬ 1000000000 < total := by omega
  generalize PulAns (z, l) total = ANS at *
  go_enter Try.func11, Try.ntmps11
  go_wp2_with (first
    | (go_at_call 20; (with_reducible refine (trim_own _ (z, l) _ (HM.out.later (B := w.heap.size) (by go_grown) (Nat.le_refl _)) HK.out HR.out).mono ?_); rintro e w1 ⟨v1, rfl, ⟨aa, hA, bs, hB, vt, hv1, hO⟩, hb⟩; subst hv1; simp only [World.size_alloc] at hO; obtain ⟨sa, b1, b2, hb1⟩ := boxedTwo hb (by simp); have HB1 := hidP hb1; have KR1 := hidP b2; have HTO := hidP (HAO.out aa bs hA hB); have HTG := hidP (HAG.out aa bs hA hB); have hf1 := HTF.out aa bs; obtain ⟨aT, cT, hvT, hcT⟩ := own_states hO; subst hvT; clear b1 b2 hb1 hb hA hB hO; generalize hTT : trimM z l (keptL aa bs l.length) = T at *; have h60 := (right_size (z := T.1) (l := T.2) hf1).1; have hmk := run_states T.2.length (by omega)))
  clear hmk
  obtain ⟨zt, lt⟩ := T
  simp only at hcT HTO HTG
  try simp only
  simp only at h60
  have HFB : Hid (∀ j, j < lt.length → finB (el lt j).1 = true) := fun j hj => (right_states hf1 j hj).1
  have HC := hidP hcT
  have HOV : Hid (∀ q, q < lt.length → ¬ (morR (el lt q).1 total).2 = 0 → ANS (0, []) 4 ∧ morR (el lt q).1 total = (0, 4)) := fun q hq h => ⟨HTO.out (pulYes hq h).1, (pulYes hq h).2⟩
  have HGO : Hid ((∀ q, q < lt.length → (morR (el lt q).1 total).2 = 0) → ANS (zt, lt.map (pulS total)) 0) := fun h => HTG.out (pulNo h)
  have KR := KR1
  clear hcT hf1 HTO HTG hTT KR1 HTF HAO HAG HM HK HR
  generalize hn : lt.length = n at *
  have HN := hidP hn
  clear hn
  go_loopw [36] (fun s wr => ∃ (i : Nat) (xs : List (Int × Value)), i ≤ n ∧ s = .int .i64 i ∧ Hid (xs.length = n) ∧ Hid (Blk wr (w1.heap.size + 1) (xs.flatMap encS).toArray 43) ∧ Hid (∀ j, j < i → (el xs j).1 = pulF total (el lt j).1 ∧ w1.ownsRow (w.heap.size + 1 + 1) 56 4 (el xs j).2 (el lt j).2.length ((el lt j).2.flatMap encA)) ∧ Hid (Blk wr w1.heap.size #[.int .i64 zt, .slice aT n cT] 24) ∧ Hid (Below w1.heap.size w1 wr) ∧ Hid (∀ q, q < i → (morR (el lt q).1 total).2 = 0)) (fun s _ => n - (intOf s).toNat)
  case atStart => exact ⟨0, List.replicate n ((0 : Int), Value.slice none 0 0), Nat.zero_le _, rfl, by show _ = _; simp, (by have := Blk.made (w1.alloc (.cells #[.int .i64 zt, .slice aT n cT] 24)) ((List.replicate n ((0 : Int), Value.slice none 0 0)).flatMap encS).toArray 43; rw [World.size_alloc] at this; exact this), fun j hj => absurd hj (Nat.not_lt_zero _), (Blk.made _ _ _).alloc _, ((Below.refl _ _).alloc (Nat.le_refl _) _).alloc (by simp) _, fun q hq => absurd hq (Nat.not_lt_zero _)⟩
  case round =>
    obtain ⟨i, xs, hi, rfl, hxl, hbx, hold, hks, hb, hsm⟩ := hrel
    have KRr := hidP (KR.out.below hb.out KR.out.lt)
    have HB0 := hidP (HB1.out.trans (hb.out.mono HB1.out.size))
    have hsr := hb.out.size
    have hxlt := hbx.out.lt
    have hklt := KRr.out.lt
    by_cases hin : i < n
    · have i1 : (i : Int) < (n : Int) := by omega
      have i0 : (0 : Int) ≤ (i : Int) := by omega
      obtain ⟨b, off, va, rfl, hbl, y0, y1, gA⟩ := HC.out i hin
      have y0 := (hb.out.cell (p := ⟨b, off + i * 2, none⟩) hbl).trans y0
      have y1 := (hb.out.cell (p := ⟨b, off + i * 2 + 1, none⟩) hbl).trans y1
      obtain ⟨a2, cap2, hva⟩ := own_sl gA
      have HGA := hidP gA
      subst hva
      have hfin := HFB.out i hin
      have HOVi := hidP (HOV.out i hin)
      have HPF := hidP (fun h => pulFin (f := (el lt i).1) (total := total) h)
      have HSM : Hid ((morR (el lt i).1 total).2 = 0 → ∀ q, q < i + 1 → (morR (el lt q).1 total).2 = 0) := fun h q hq => by
        by_cases e : q = i
        · rw [e]; exact h
        · exact hsm.out q (by omega)
      obtain ⟨fin, hfi⟩ : ∃ fin, (el lt i).1 = fin := ⟨_, rfl⟩
      have HFI := hidP hfi
      obtain ⟨n2, hn2⟩ : ∃ n2, (el lt i).2.length = n2 := ⟨_, rfl⟩
      have HN2 := hidP hn2
      rw [hfi] at y0 hfin HOVi HPF HSM
      rw [hn2] at y1 HGA
      clear gA hfi hn2
      have hfb : 0 ≤ fin ∧ fin ≤ 1000000001 := by simp [finB, inB] at hfin; omega
      obtain ⟨fb0, fb1⟩ := hfb
      obtain ⟨wq, hwq⟩ : ∃ wq, wq = wr := ⟨_, rfl⟩
      subst hwq
      by_cases hz : (morR fin total).2 = 0
      · have HSN := hidP (HSM.out hz)
        have HMC := hidP (HPF.out hz)
        obtain ⟨ff, hff⟩ : ∃ ff, pulF total fin = ff := ⟨_, rfl⟩
        have HFF := hidP hff
        rw [hff] at HMC
        clear hz hff HPF HSM HOVi
        go_wp2_with (first
          | (go_at_call 27; (with_reducible refine (more_any fin total _ fb0 fb1 hp0 hp1 ff 0 HMC.out).mono ?_); rintro e w5 ⟨rfl, hb5⟩; obtain ⟨s5, k5, hb5'⟩ := boxed hb5 (by simp); have HB5 := hidP hb5'; have hbs5 := hbx.out.below hb5' hxlt; have HBS5 := hidP hbs5; have e0 := hbs5.cell (i * 2) (v := .int .i64 (el xs i).1) (by rw [List.getElem?_toArray]; exact flat_at encS_len xs i (by rw [hxl.out]; omega) 0 (by omega)); have e1 := hbs5.cell (i * 2 + 1) (v := (el xs i).2) (by rw [List.getElem?_toArray]; exact flat_at encS_len xs i (by rw [hxl.out]; omega) 1 (by omega)); have f0 := hbs5.fz (i * 2); have f1 := hbs5.fz (i * 2 + 1); have c1 := k5.cell 1 (v := .slice a2 n2 cap2) rfl; clear hb5 hb5' hbs5 k5))
        go_roundw
        case rel =>
          refine ⟨i + 1, xs.set i (ff, .slice a2 n2 cap2), by omega, by go_num, by show _ = _; simp; exact hxl.out, ?_, ?_, ?_, ?_, HSN⟩
          · have h := (HBS5.out.set (i * 2) (.int .i64 ff)).set (i * 2 + 1) (.slice a2 n2 cap2)
            rw [set_state (by rw [hxl.out]; omega) (ff, .slice a2 n2 cap2)] at h
            exact h
          · intro j hj
            rw [el_setS (by rw [hxl.out]; omega)]
            by_cases hji : j = i
            · subst hji
              rw [if_pos rfl, HFI.out, HN2.out]
              exact ⟨HFF.out.symm, HGA.out⟩
            · rw [if_neg hji]
              exact hold.out j (by omega)
          · exact ((hks.out.below HB5.out hks.out.lt).setO _ _ (by show w1.heap.size ≠ w1.heap.size + 1; omega)).setO _ _ (by show w1.heap.size ≠ w1.heap.size + 1; omega)
          · exact ((hb.out.trans (HB5.out.mono hb.out.size)).setCell (by show w1.heap.size ≤ w1.heap.size + 1; omega) _).setCell (by show w1.heap.size ≤ w1.heap.size + 1; omega) _
        case measure => simp [intOf]; omega
      · obtain ⟨ha4, hm4⟩ := HOVi.out hz
        have HA4 := hidP ha4
        have HMC := hidP hm4
        clear hz ha4 hm4 HPF HSM HOVi
        go_wp2_with (first
          | (go_at_call 27; (with_reducible refine (more_any fin total _ fb0 fb1 hp0 hp1 0 4 HMC.out).mono ?_); rintro e w5 ⟨rfl, hb5⟩; obtain ⟨s5, k5, hb5'⟩ := boxed hb5 (by simp); have HB5 := hidP (HB0.out.trans (hb5'.mono HB0.out.size)); have KR5 := KRr.out.below hb5' hklt; have q0 := KR5.cell 0 (v := .int .i64 0) rfl; have q1 := KR5.cell 1 (v := .slice none 0 0) rfl; have g0 := KR5.fz 0; have g1 := KR5.fz 1; clear hb5 hb5' k5 KR5))
        exact bodyPost_ret (v := .tuple #[.agg #[.int .i64 0, .slice none 0 0], .int .i64 4]) (by simp [results, Try.results11, go_sem, *]) rfl ⟨_, _, _, rfl, HA4.out, mach_zeroR _, by (have h9 := HB5.out); go_grown⟩
    · have hke : i = n := by omega
      have hnl : ¬ (i : Int) < (n : Int) := by omega
      have HXX : Hid (∀ w', Agree (w.heap.size + 1 + 1) wr w' → Sts w' (.slice (some ⟨w1.heap.size + 1, 0, none⟩) n n) (lt.map (pulS total))) := by
        intro w' hg
        have hl2 : (lt.map (pulS total)).length = n := by rw [List.length_map]; exact HN.out
        have hg1 : Agree (w.heap.size + 1 + 1) w1 w' := (agree_below hb.out).trans hb.out.size hg
        have := sts_block (l := lt.map (pulS total)) (B := w.heap.size + 1 + 1) (w := w') (blk_agree hbx.out (by omega) hg) (by rw [hl2]; exact hxl.out) (fun j hj => by
          have hj' : j < lt.length := by simpa using hj
          rw [el_map hj']
          obtain ⟨q1, q2⟩ := hold.out j (by rw [hke, ← HN.out]; exact hj')
          exact ⟨q1, own_agree q2 hg1⟩)
        rw [hl2] at this
        exact this
      have HA0 := hidP (HGO.out fun q hq => hsm.out q (by omega))
      have d0 := hks.out.cell 0 (v := .int .i64 zt) rfl
      have q0 := KRr.out.cell 0 (v := .int .i64 0) rfl
      have q1 := KRr.out.cell 1 (v := .slice none 0 0) rfl
      have g0 := KRr.out.fz 0
      have g1 := KRr.out.fz 1
      generalize lt.map (pulS total) = PL at *
      clear hold hbx hks hsm
      go_wp2
      exact bodyPost_ret (v := .tuple #[.agg #[.int .i64 zt, .slice (some ⟨w1.heap.size + 1, 0, none⟩) n n], .int .i64 0]) (by simp [results, Try.results11, go_sem, *]) rfl ⟨_, _, _, rfl, HA0.out, ⟨_, rfl, HXX.out _ ((agree_set (by show w.heap.size + 1 < _; omega) _).trans (by simp [World.setCell]) (agree_set (by show w.heap.size + 1 < _; omega) _))⟩, by (have h9 := HB0.out); go_grown⟩
end Go.Proofs.Yteaafghmkkejfaa.Wt
