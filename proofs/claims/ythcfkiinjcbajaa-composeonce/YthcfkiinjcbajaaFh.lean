/- compose.Compose where both machines are right and have a Start. -/
import Derived.Test.YthcfkiinjcbajaaFc
import Derived.Test.YthcfkiinjcbajaaFg
import Derived.Test.YthcfkiinjcbajaaPlainQx
import Derived.Test.YthcfkiinjcbajaaJ16l
namespace Go.Proofs.Ythcfkiinjcbajaa.Wt
open Go.ChangeShapes Go.WideShapes Go.ChangeAt Go.RowKit Go.Maps
open Go.Proofs.Ythcfkiinjcbajaa.Pl
set_option linter.unusedVariables false
set_option linter.unusedSimpArgs false
set_option maxRecDepth 100000 in
/-- compose.check: the first one's error comes first. -/
theorem cmpCheck_any (va vb : Value) (a b : Mc) (w : World) (ha : Mach w va a) (hoka : okM a) (hb : Mach w vb b) (hokb : okM b) (r : Int) (hr : (if faultM a ≠ 0 then faultM a else faultM b) = r) :
    Calls Try.prog 26 #[va, vb] w fun e w' => e = .returned (.int .i64 r) ∧ Below w.heap.size w w' := by
  have HMA := hidP ha
  have HMB := hidP hb
  have HKA := hidP hoka
  have HKB := hidP hokb
  obtain ⟨za, la⟩ := a
  obtain ⟨zb, lb⟩ := b
  obtain ⟨vsa, rfl, hSa⟩ := ha
  obtain ⟨vsb, rfl, hSb⟩ := hb
  obtain ⟨aa, capa, rfl⟩ := hSa.sl
  obtain ⟨ab, capb, rfl⟩ := hSb.sl
  clear hSa hSb hoka hokb
  simp only at *
  by_cases h0 : faultM (za, la) = 0
  · have HF : Hid (faultM (zb, lb) = r) := by show _ = _; rw [if_neg (fun h => h h0)] at hr; exact hr
    have HF0 := hidP h0
    clear h0 hr
    generalize la.length = na at *
    generalize lb.length = nb at *
    go_enter Try.func26, Try.ntmps26
    go_wp2_with (first
      | (go_at_call 48; (with_reducible refine (coreCheck_any _ (za, la) _ (HMA.out.later (B := w.heap.size) (by go_grown) (Nat.le_refl _)) HKA.out 0 HF0.out).mono ?_); rintro e w1 ⟨rfl, hb1⟩; obtain ⟨s1, k0, k1, hb1⟩ := boxedTwo hb1 (by simp); have HB1 := hidP hb1; have c0 := k1.cell 0 (v := .int .i64 zb) rfl; have c1 := k1.cell 1 (v := .slice ab nb capb) rfl; clear k0 k1 hb1 s1 HF0)
      | (go_at_call 48; (with_reducible refine (coreCheck_any _ (zb, lb) _ (HMB.out.later HB1.out (Nat.le_refl _)) HKB.out r HF.out).mono ?_); rintro e w2 ⟨rfl, hb2⟩; have HB2 := hidP (HB1.out.trans (hb2.mono HB1.out.size)); clear hb2))
    go_ret
    exact ⟨rfl, HB2.out⟩
  · have HF : Hid (faultM (za, la) = r) := by show _ = _; rw [if_pos h0] at hr; exact hr
    have hrn : (r != 0) = true := by rw [← HF.out]; simpa using h0
    clear h0 hr
    generalize la.length = na at *
    generalize lb.length = nb at *
    go_enter Try.func26, Try.ntmps26
    go_wp2_with (first
      | (go_at_call 48; (with_reducible refine (coreCheck_any _ (za, la) _ (HMA.out.later (B := w.heap.size) (by go_grown) (Nat.le_refl _)) HKA.out r HF.out).mono ?_); rintro e w1 ⟨rfl, hb1⟩; obtain ⟨s1, k0, k1, hb1⟩ := boxedTwo hb1 (by simp); have HB1 := hidP hb1; clear k0 k1 hb1 s1))
    go_ret
    exact ⟨rfl, HB1.out⟩
theorem res_cmpP (tm : Array Value) (W : World) (R : Nat) (ec : Int) (x0 x1 : Value) (hB : Blk W R #[x0, x1] 24) (h2 : tm.getD 4 undef = .pointer (some ⟨R, 0, none⟩)) (h3 : tm.getD 5 undef = .int .i64 ec) : (results Try.f14 tm).run Try.prog W = .ok (.tuple #[.agg #[x0, x1], .int .i64 ec]) W := by
  have c0 := hB.cell 0 (v := x0) rfl
  have c1 := hB.cell 1 (v := x1) rfl
  simp only [Array.getD_eq_getD_getElem?] at h2 h3
  simp [results, Try.results14, go_sem, h2, h3, c0, c1]
/-- What is held while two machines are composed. -/
structure CpsM (w wr : World) (C mb : Nat) (vt vs : Value) (ca cb : Array Value) (L : List Tr) (S : List St) (n : Int) : Prop where
  bxA : Blk wr w.heap.size ca 24
  bxB : Blk wr (w.heap.size + 1) cb 24
  bxR : Blk wr (w.heap.size + 1 + 1) #[.int .i64 0, .slice none 0 0] 24
  cpo : CpoN wr (w.heap.size + 3) C mb vt vs L n
  sts : OwnSts wr (w.heap.size + 3) vs S
  below : Below w.heap.size w wr
  size : w.heap.size + 3 ≤ wr.heap.size
section
variable {w wr w' : World} {C mb : Nat} {vt vs vt' vs' : Value} {ca cb : Array Value} {L L' : List Tr} {S S' : List St} {n n' : Int}
theorem CpsM.later (h : CpsM w wr C mb vt vs ca cb L S n) (hb : Below wr.heap.size wr w') : CpsM w w' C mb vt vs ca cb L S n :=
  ⟨h.bxA.below hb h.bxA.lt, h.bxB.below hb h.bxB.lt, h.bxR.below hb h.bxR.lt, h.cpo.later hb, h.sts.laterB hb, h.below.trans (hb.mono h.below.size), Nat.le_trans h.size hb.size⟩
theorem CpsM.next (h : CpsM w wr C mb vt vs ca cb L S n) (hb : Below (w.heap.size + 3) wr w') (hc : CpoN w' (w.heap.size + 3) C mb vt' vs' L' n') (hs : OwnSts w' (w.heap.size + 3) vs' S') : CpsM w w' C mb vt' vs' ca cb L' S' n' :=
  ⟨h.bxA.below hb (by omega), h.bxB.below hb (by omega), h.bxR.below hb (by omega), hc, hs, h.below.trans (hb.mono (by omega)), Nat.le_trans h.size hb.size⟩
end
def HeldCo (B : Nat) (za zb : Int) (va vb : Value) (C : Nat) (vt : Value) (b o : Nat) (t0 t1 t2 : Int) (w : World) : Prop := w.cell? ⟨B, 0, none⟩ = some (.int .i64 za) ∧ w.cell? ⟨B, 1, none⟩ = some va ∧ w.cell? ⟨B + 1, 0, none⟩ = some (.int .i64 zb) ∧ w.cell? ⟨B + 1, 1, none⟩ = some vb ∧ w.cell? ⟨C, 1, none⟩ = some vt ∧ w.cell? ⟨b, o, none⟩ = some (.int .i64 t0) ∧ w.cell? ⟨b, o + 1, none⟩ = some (.int .i64 t1) ∧ w.cell? ⟨b, o + 2, none⟩ = some (.int .i64 t2)
theorem HeldCo.below {B n C b o : Nat} {za zb : Int} {va vb vt : Value} {t0 t1 t2 : Int} {w w' : World} (h : HeldCo B za zb va vb C vt b o t0 t1 t2 w) (hb : Below n w w') (h1 : B + 1 < n) (h2 : C < n) (h3 : b < n) : HeldCo B za zb va vb C vt b o t0 t1 t2 w' :=
  ⟨(hb.cell (p := ⟨B, 0, none⟩) (by show B < n; omega)).trans h.1, (hb.cell (p := ⟨B, 1, none⟩) (by show B < n; omega)).trans h.2.1, (hb.cell (p := ⟨B + 1, 0, none⟩) h1).trans h.2.2.1, (hb.cell (p := ⟨B + 1, 1, none⟩) h1).trans h.2.2.2.1, (hb.cell (p := ⟨C, 1, none⟩) h2).trans h.2.2.2.2.1, (hb.cell (p := ⟨b, o, none⟩) h3).trans h.2.2.2.2.2.1, (hb.cell (p := ⟨b, o + 1, none⟩) h3).trans h.2.2.2.2.2.2.1, (hb.cell (p := ⟨b, o + 2, none⟩) h3).trans h.2.2.2.2.2.2.2⟩
theorem cpL_all2 {P : Tr → Prop} {L : List Tr} {hs : List Hp} (h1 : ∀ t ∈ L, P t) (h2 : ∀ h ∈ hs, P h.2.2.2) : ∀ k, k ≤ hs.length → ∀ t ∈ cpL hs L k, P t := by
  intro k
  induction k with
  | zero => intro _; rw [cpL_zero]; exact h1
  | succ k ih =>
    intro hk t ht
    rw [cpL_succ (by omega)] at ht
    unfold addQ at ht
    split at ht
    · exact ih (by omega) t ht
    · rcases List.mem_append.1 ht with g | g
      · exact ih (by omega) t g
      · rw [List.mem_singleton] at g
        rw [g]
        exact h2 _ (el_mem (by omega))
set_option maxRecDepth 100000 in
set_option maxHeartbeats 6400000 in
theorem composeP_ok (va vb : Value) (a b : Mc) (w : World) (ha : Mach w va a) (hoka : okM a) (hb : Mach w vb b) (hokb : okM b) (fa : faultM a = 0) (fb : faultM b = 0) (sa : 0 ≤ a.1) (sb : 0 ≤ b.1) :
    Calls Try.prog 14 #[va, vb] w fun e w' => RatRes (cpsA a b).1 (cpsA a b).2 w e w' := by
  have HCK := hidP (fun W (hB : Below w.heap.size w W) => cmpCheck_any va vb a b W (ha.later hB (Nat.le_refl _)) hoka (hb.later hB (Nat.le_refl _)) hokb 0 (by rw [if_neg (fun h => h fa)]; exact fb))
  have HEX := hidP (fun W p q f (hB : Below w.heap.size w W) hp hq => expandedQ_any W va vb a b p q f (ha.later hB (Nat.le_refl _)) (hb.later hB (Nat.le_refl _)) fa fb hp hq)
  have HI0 := hidP (CpsI.init fa fb sa sb)
  have HTR := hidP (fun t ht => exp_tr fa fb (t := t) ht)
  have HEE := hidP (fun t ht => expE_tr fa fb (t := t) ht)
  have HXL := hidP (expT_len fa fb)
  have n60 := (right_size (z := a.1) (l := a.2) fa).1
  have m60 := (right_size (z := b.1) (l := b.2) fb).1
  have ra := (right_parts fa).1
  have rb := (right_parts fb).1
  have HT0 : Hid (trB a b (a.1, b.1, 0) = true) := tr_iff.2 (by simp only; omega)
  have HTI := hidP (fun t => (tr_iff (a := a) (b := b) (t := t)).1)
  obtain ⟨X, hX⟩ : ∃ X, cpsA a b = X := ⟨_, rfl⟩
  rw [hX]
  have HX := hidP hX
  clear hX
  obtain ⟨vsa, rfl, hSa⟩ := ha
  obtain ⟨vsb, rfl, hSb⟩ := hb
  obtain ⟨aa, capa, rfl⟩ := hSa.sl
  obtain ⟨ab, capb, rfl⟩ := hSb.sl
  clear hSa hSb hoka hokb fa fb
  obtain ⟨na, hna⟩ : ∃ na, a.2.length = na := ⟨_, rfl⟩
  obtain ⟨nb, hnb⟩ : ∃ nb, b.2.length = nb := ⟨_, rfl⟩
  obtain ⟨za, hza⟩ : ∃ za, a.1 = za := ⟨_, rfl⟩
  obtain ⟨zb, hzb⟩ : ∃ zb, b.1 = zb := ⟨_, rfl⟩
  rw [hna] at HCK HEX n60 ra HTI ⊢
  rw [hnb] at HCK HEX m60 rb HTI ⊢
  rw [hza] at HCK HEX HI0 HT0 sa ra ⊢
  rw [hzb] at HCK HEX HI0 HT0 sb rb ⊢
  clear hna hnb hza hzb
  have hza : (za == -1) = false := by simp; omega
  have hzb : (zb == -1) = false := by simp; omega
  go_enter Try.func14, Try.ntmps14
  go_wp2_with (first
    | (go_at_call 26; (with_reducible refine (HCK.out _ (by go_grown)).mono ?_); rintro e w1 ⟨rfl, hb1⟩; obtain ⟨s1, k0, k1, k2, hb1⟩ := boxedThree hb1 (by simp); have HB1 := hidP hb1; have K0 := hidP k0; have K1 := hidP k1; have K2 : Hid (Blk w1 (w.heap.size + 1 + 1) #[.int .i64 0, .slice none 0 0] 24) := k2; have c0 := k0.cell 0 (v := .int .i64 za) rfl; have d0 := k1.cell 0 (v := .int .i64 zb) rfl; have S1 := hidP s1; have hl0 := k0.lt; have hl1 := k1.lt; clear k0 k1 k2 hb1 s1 HCK)
    | (go_at_call 35; (with_reducible refine (cpoBegin_any _ (w.heap.size + 3) w1.heap.size za zb 0 (Blk.made w1 _ _) S1.out (by unfold SmT; simp only; omega)).mono ?_); rintro e w2 ⟨rfl, hb2, mb, vt, hc2⟩; have hA1 := (hidP ((Below.refl w1.heap.size w1).alloc (Nat.le_refl _) (.cells #[.map none, .slice none 0 0, .slice none 0 0, .int .i64 0] 73))); have M2 : Hid (CpsM w w2 w1.heap.size mb vt (.slice none 0 0) #[.int .i64 za, .slice aa na capa] #[.int .i64 zb, .slice ab nb capb] [(za, zb, 0)] [] 0) := (⟨(K0.out.below hA1.out K0.out.lt).below hb2 (by omega), (K1.out.below hA1.out K1.out.lt).below hb2 (by omega), (K2.out.below hA1.out K2.out.lt).below hb2 (by omega), hc2, OwnSts.nil _ _, (HB1.out.trans (hA1.out.mono HB1.out.size)).trans (hb2.mono (by omega)), Nat.le_trans S1.out (Nat.le_trans hA1.out.size hb2.size)⟩); clear hb2 hc2 hA1))
  obtain ⟨C, hC⟩ : ∃ C, C = w1.heap.size := ⟨_, rfl⟩
  have HCE := hidP hC
  rw [← hC] at M2
  rw [← HCE.out]
  clear hC c0 d0 K0 K1 K2 HB1 S1 hl0 hl1
  go_loopw [8] (fun i wr => ∃ (q n : Nat) (L : List Tr) (S : List St) (vt vs : Value), i = .int .i64 (q : Int) ∧ Hid (CpsI a b q L S n) ∧ Hid (∀ t ∈ L, trB a b t = true) ∧ Hid (CpsM w wr C mb vt vs #[.int .i64 za, .slice aa na capa] #[.int .i64 zb, .slice ab nb capb] L S (n : Int))) (fun i _ => 61 - (intOf i).toNat)
  case atStart => exact ⟨0, 0, [(za, zb, 0)], [], vt, _, rfl, HI0, (fun t ht => by rw [List.mem_singleton] at ht; rw [ht]; exact HT0.out), M2⟩
  case round =>
    clear M2 HI0 HT0
    obtain ⟨q, n, L, S, vt5, vs5, rfl, hI, hT, hM⟩ := hrel
    obtain ⟨w5, hw5⟩ : ∃ w5, w5 = wr := ⟨_, rfl⟩
    subst hw5
    have hl60 := hI.out.l60
    have hqL := hI.out.le
    have hn4 := hI.out.n4
    obtain ⟨at5, ct5, hat⟩ := hM.out.cpo.trs.sl
    subst hat
    have e1 := hM.out.cpo.blk.cell 1 (v := .slice at5 L.length ct5) rfl
    by_cases hlt : q < L.length
    · have q0 : (0 : Int) ≤ (q : Int) := by omega
      have q1 : (q : Int) < (L.length : Int) := by omega
      obtain ⟨bt, ot, hbt, hbtl, g0, g1, g2⟩ := hM.out.cpo.trs.cell hlt
      subst hbt
      have htr := hT.out (el L q) (el_mem hlt)
      have HNT := hidP (HTR.out _ htr)
      have HE := hidP (HEE.out _ htr)
      have HLX := hidP (HXL.out (el L q))
      have htt := HTI.out _ htr
      have HERR := hidP (fun h => hI.out.err hlt h)
      have HFUL := hidP (fun h i (hi : i < (expT a b (el L q)).length) hf => hI.out.full hlt h (i := i) hi hf)
      have HNXT := hidP (fun h h4 h6 => hI.out.next hlt h h4 h6)
      have HND := hidP hI.out.nodup
      have hSl : S.length ≤ 1000 := by rw [hI.out.len]; omega
      obtain ⟨t, ht⟩ : ∃ t, el L q = t := ⟨_, rfl⟩
      rw [ht] at g0 g1 g2 htr HNT HE HLX htt HERR HFUL HNXT
      clear ht htr
      obtain ⟨t0, t1, t2⟩ := t
      simp only at g0 g1 g2 htt
      obtain ⟨⟨ta, tb⟩, ⟨tc, td⟩, te, tf⟩ := htt
      obtain ⟨p, hp⟩ := Int.eq_ofNat_of_zero_le ta
      obtain ⟨r, hr⟩ := Int.eq_ofNat_of_zero_le tc
      subst hp
      subst hr
      have HXX := hidP (fun W (hB : Below w.heap.size w W) => HEX.out W p r t2 hB (by omega) (by omega))
      obtain ⟨XT, hXT⟩ : ∃ XT, expT a b ((p : Int), (r : Int), t2) = XT := ⟨_, rfl⟩
      obtain ⟨FT, hFT⟩ : ∃ FT, finTr a b ((p : Int), (r : Int), t2) = FT := ⟨_, rfl⟩
      rw [hXT] at HXX HNT HLX HFUL HNXT
      rw [hFT] at HXX HNXT
      clear hXT hFT
      have hD := (Below.refl w5.heap.size w5).drew
      have HS0 : HeldCo w.heap.size za zb (.slice aa na capa) (.slice ab nb capb) C (.slice (some ⟨bt, ot, none⟩) L.length ct5) bt (ot + q * 3) (p : Int) (r : Int) t2 w5.drew := ⟨hM.out.bxA.cell 0 rfl, hM.out.bxA.cell 1 rfl, hM.out.bxB.cell 0 rfl, hM.out.bxB.cell 1 rfl, e1, g0, g1, g2⟩
      rcases bool_cases' (expO a b ((p : Int), (r : Int), t2)) with hO | hO
      · have hE4 : expE a b ((p : Int), (r : Int), t2) = 4 := by rw [HE.out, if_pos hO]
        have HA4 := hidP (HERR.out (by rw [hE4]; simp))
        rw [hE4] at HA4
        simp only [hO, if_true] at HXX
        clear HE hE4 HERR HFUL HNXT hO
        go_wp2
        refine region_anyL (HeldCo w.heap.size za zb (.slice aa na capa) (.slice ab nb capb) C (.slice (some ⟨bt, ot, none⟩) L.length ct5) bt (ot + q * 3) (p : Int) (r : Int) t2) 14 (by kernel_rfl) ?_
        refine anyL_take (i := 0) (v := ?v0_1) at0 (by kernel_rfl) (by kernel_rfl) (by kernel_rfl) (by kernel_rfl) (fun _ _ _ h => h) rfl ?y0_1 HS0 ?r0_1
        case y0_1 => intro wx hx; obtain ⟨y0, y1, y2, y3, y4, y5, y6, y7⟩ := hx; go_simp; try (with_reducible rfl)
        simp only [Act.put, List.setIfInBounds_toArray, List.set_cons_zero, List.set_cons_succ]
        refine anyL_take (i := 1) (v := ?v1_2) (atS at0) (by kernel_rfl) (by kernel_rfl) (by kernel_rfl) (by kernel_rfl) (fun _ _ _ h => h) rfl ?y1_2 HS0 ?r1_2
        case y1_2 => intro wx hx; obtain ⟨y0, y1, y2, y3, y4, y5, y6, y7⟩ := hx; go_simp; try (with_reducible rfl)
        simp only [Act.put, List.setIfInBounds_toArray, List.set_cons_zero, List.set_cons_succ]
        refine anyL_take (i := 2) (v := ?v2_3) (atS (atS at0)) (by kernel_rfl) (by kernel_rfl) (by kernel_rfl) (by kernel_rfl) (fun _ _ _ h => h) rfl ?y2_3 HS0 ?r2_3
        case y2_3 => intro wx hx; obtain ⟨y0, y1, y2, y3, y4, y5, y6, y7⟩ := hx; go_simp; try (with_reducible rfl)
        simp only [Act.put, List.setIfInBounds_toArray, List.set_cons_zero, List.set_cons_succ]
        refine anyL_take (i := 3) (v := ?v3_4) (atS (atS (atS at0))) (by kernel_rfl) (by kernel_rfl) (by kernel_rfl) (by kernel_rfl) (fun _ _ _ h => h) rfl ?y3_4 HS0 ?r3_4
        case y3_4 => intro wx hx; obtain ⟨y0, y1, y2, y3, y4, y5, y6, y7⟩ := hx; go_simp; try (with_reducible rfl)
        simp only [Act.put, List.setIfInBounds_toArray, List.set_cons_zero, List.set_cons_succ]
        refine anyL_take (i := 4) (v := ?v4_5) (atS (atS (atS (atS at0)))) (by kernel_rfl) (by kernel_rfl) (by kernel_rfl) (by kernel_rfl) (fun _ _ _ h => h) rfl ?y4_5 HS0 ?r4_5
        case y4_5 => intro wx hx; obtain ⟨y0, y1, y2, y3, y4, y5, y6, y7⟩ := hx; go_simp; try (with_reducible rfl)
        simp only [Act.put, List.setIfInBounds_toArray, List.set_cons_zero, List.set_cons_succ]
        refine anyL_take (i := 5) (v := ?v5_6) (atS (atS (atS (atS (atS at0))))) (by kernel_rfl) (by kernel_rfl) (by kernel_rfl) (by kernel_rfl) (fun _ _ _ h => h) rfl ?y5_6 HS0 ?r5_6
        case y5_6 => intro wx hx; obtain ⟨y0, y1, y2, y3, y4, y5, y6, y7⟩ := hx; go_simp; try (with_reducible rfl)
        simp only [Act.put, List.setIfInBounds_toArray, List.set_cons_zero, List.set_cons_succ]
        refine anyL_take (i := 6) (v := ?v6_7) (atS (atS (atS (atS (atS (atS at0)))))) (by kernel_rfl) (by kernel_rfl) (by kernel_rfl) (by kernel_rfl) (fun _ _ _ h => h) rfl ?y6_7 HS0 ?r6_7
        case y6_7 => intro wx hx; obtain ⟨y0, y1, y2, y3, y4, y5, y6, y7⟩ := hx; go_simp; try (with_reducible rfl)
        simp only [Act.put, List.setIfInBounds_toArray, List.set_cons_zero, List.set_cons_succ]
        refine anyL_one (i := 7) (atS (atS (atS (atS (atS (atS (atS at0))))))) (by kernel_rfl) rfl (fun K hK => ?_)
        go_simp
        with_reducible refine (HXX.out _ (by exact hM.out.below.drew)).mono ?_
        rintro e w6 ⟨vr, rfl, ho6, hb6⟩
        have M6 := hidP ((hM.out.later hD).later hb6)
        have HO6 := hidP ho6
        have HS6 : HeldCo w.heap.size za zb (.slice aa na capa) (.slice ab nb capb) C (.slice (some ⟨bt, ot, none⟩) L.length ct5) bt (ot + q * 3) (p : Int) (r : Int) t2 w6 := HS0.below hb6 (by have := hM.out.size; show _ < w5.heap.size; omega) hM.out.cpo.blk.lt hbtl
        clear ho6 hb6 HS0 HXX
        obtain ⟨ar6, nr6, cr6, hvr⟩ := slThree HO6.out.sl
        subst hvr
        refine hK _ _ (.inr HS6) ?_
        try simp only [Act.put, List.setIfInBounds_toArray, List.set_cons_zero, List.set_cons_succ]
        refine anyL_take (i := 8) (v := ?v8_8) (atS (atS (atS (atS (atS (atS (atS (atS at0)))))))) (by kernel_rfl) (by kernel_rfl) (by kernel_rfl) (by kernel_rfl) (fun _ _ _ h => h) rfl ?y8_8 HS6 ?r8_8
        case y8_8 => intro wx hx; obtain ⟨y0, y1, y2, y3, y4, y5, y6, y7⟩ := hx; go_simp; try (with_reducible rfl)
        simp only [Act.put, List.setIfInBounds_toArray, List.set_cons_zero, List.set_cons_succ]
        refine anyL_take (i := 9) (v := ?v9_9) (atS (atS (atS (atS (atS (atS (atS (atS (atS at0))))))))) (by kernel_rfl) (by kernel_rfl) (by kernel_rfl) (by kernel_rfl) (fun _ _ _ h => h) rfl ?y9_9 HS6 ?r9_9
        case y9_9 => intro wx hx; obtain ⟨y0, y1, y2, y3, y4, y5, y6, y7⟩ := hx; go_simp; try (with_reducible rfl)
        simp only [Act.put, List.setIfInBounds_toArray, List.set_cons_zero, List.set_cons_succ]
        refine anyL_take (i := 10) (v := ?v10_10) (atS (atS (atS (atS (atS (atS (atS (atS (atS (atS at0)))))))))) (by kernel_rfl) (by kernel_rfl) (by kernel_rfl) (by kernel_rfl) (fun _ _ _ h => h) rfl ?y10_10 HS6 ?r10_10
        case y10_10 => intro wx hx; obtain ⟨y0, y1, y2, y3, y4, y5, y6, y7⟩ := hx; go_simp; try (with_reducible rfl)
        simp only [Act.put, List.setIfInBounds_toArray, List.set_cons_zero, List.set_cons_succ]
        refine anyL_take (i := 11) (v := ?v11_11) (atS (atS (atS (atS (atS (atS (atS (atS (atS (atS (atS at0))))))))))) (by kernel_rfl) (by kernel_rfl) (by kernel_rfl) (by kernel_rfl) (fun _ _ _ h => h) rfl ?y11_11 HS6 ?r11_11
        case y11_11 => intro wx hx; obtain ⟨y0, y1, y2, y3, y4, y5, y6, y7⟩ := hx; go_simp; try (with_reducible rfl)
        simp only [Act.put, List.setIfInBounds_toArray, List.set_cons_zero, List.set_cons_succ]
        refine anyL_one (i := 12) (atS (atS (atS (atS (atS (atS (atS (atS (atS (atS (atS (atS at0)))))))))))) (by kernel_rfl) rfl (fun K hK => ?_)
        go_simp
        refine hK _ _ (.inr HS6) ?_
        try simp only [Act.put, List.setIfInBounds_toArray, List.set_cons_zero, List.set_cons_succ]
        refine anyL_one (i := 13) (atS (atS (atS (atS (atS (atS (atS (atS (atS (atS (atS (atS (atS at0))))))))))))) (by kernel_rfl) rfl (fun K hK => ?_)
        go_simp
        refine hK _ _ (.inr HS6) ?_
        try simp only [Act.put, List.setIfInBounds_toArray, List.set_cons_zero, List.set_cons_succ]
        refine anyL_one (i := 14) (atS (atS (atS (atS (atS (atS (atS (atS (atS (atS (atS (atS (atS (atS at0)))))))))))))) (by kernel_rfl) rfl (fun K hK => ?_)
        go_simp
        refine hK _ _ (.inl rfl) (anyL_done (by kernel_rfl) (NoPanic.normal ?_))
        try simp only [Act.put, List.setIfInBounds_toArray, List.set_cons_zero, List.set_cons_succ]
        clear HS6
        have bR0 := M6.out.bxR.cell 0 (v := .int .i64 0) rfl
        have bR1 := M6.out.bxR.cell 1 (v := .slice none 0 0) rfl
        have fR0 := M6.out.bxR.fz 0
        have fR1 := M6.out.bxR.fz 1
        go_wp2
        have hXE : X = ((0, []), 4) := HX.out.symm.trans HA4.out
        subst hXE
        exact bodyPost_ret (res_cmpP _ _ (w.heap.size + 1 + 1) 4 _ _ ((M6.out.bxR.set 0 (.int .i64 0)).set 1 (.slice none 0 0)) rfl rfl) rfl ⟨_, rfl, mach_zeroR _, (M6.out.below.setCell (p := ⟨w.heap.size + 1 + 1, 0, none⟩) (by show w.heap.size ≤ w.heap.size + 1 + 1; omega) _).setCell (p := ⟨w.heap.size + 1 + 1, 1, none⟩) (by show w.heap.size ≤ w.heap.size + 1 + 1; omega) _⟩
      · have hE0 : expE a b ((p : Int), (r : Int), t2) = 0 := by rw [HE.out, if_neg (by rw [hO]; simp)]
        simp only [hO, Bool.false_eq_true, if_false] at HXX
        have HSM : Hid (∀ x ∈ XT, SmT x.2.2.2) := fun x hx => by
          obtain ⟨⟨h1, h2⟩, ⟨h3, h4⟩, h5, h6⟩ := HTI.out _ (HNT.out x hx)
          unfold SmT
          omega
        by_cases hful : ∃ i, i < XT.length ∧ FulI XT L (n : Int) i
        · have HA5 : Hid (cpsA a b = ((0, []), 5)) := by
            obtain ⟨i, hi, hf⟩ := hful
            refine HFUL.out hE0 i hi ?_
            unfold FulI at hf
            omega
          have HFU := hidP hful
          clear HE hE0 HERR HFUL HNXT hO hful
          go_wp2
          refine region_anyL (HeldCo w.heap.size za zb (.slice aa na capa) (.slice ab nb capb) C (.slice (some ⟨bt, ot, none⟩) L.length ct5) bt (ot + q * 3) (p : Int) (r : Int) t2) 14 (by kernel_rfl) ?_
          refine anyL_take (i := 0) (v := ?v0_12) at0 (by kernel_rfl) (by kernel_rfl) (by kernel_rfl) (by kernel_rfl) (fun _ _ _ h => h) rfl ?y0_12 HS0 ?r0_12
          case y0_12 => intro wx hx; obtain ⟨y0, y1, y2, y3, y4, y5, y6, y7⟩ := hx; go_simp; try (with_reducible rfl)
          simp only [Act.put, List.setIfInBounds_toArray, List.set_cons_zero, List.set_cons_succ]
          refine anyL_take (i := 1) (v := ?v1_13) (atS at0) (by kernel_rfl) (by kernel_rfl) (by kernel_rfl) (by kernel_rfl) (fun _ _ _ h => h) rfl ?y1_13 HS0 ?r1_13
          case y1_13 => intro wx hx; obtain ⟨y0, y1, y2, y3, y4, y5, y6, y7⟩ := hx; go_simp; try (with_reducible rfl)
          simp only [Act.put, List.setIfInBounds_toArray, List.set_cons_zero, List.set_cons_succ]
          refine anyL_take (i := 2) (v := ?v2_14) (atS (atS at0)) (by kernel_rfl) (by kernel_rfl) (by kernel_rfl) (by kernel_rfl) (fun _ _ _ h => h) rfl ?y2_14 HS0 ?r2_14
          case y2_14 => intro wx hx; obtain ⟨y0, y1, y2, y3, y4, y5, y6, y7⟩ := hx; go_simp; try (with_reducible rfl)
          simp only [Act.put, List.setIfInBounds_toArray, List.set_cons_zero, List.set_cons_succ]
          refine anyL_take (i := 3) (v := ?v3_15) (atS (atS (atS at0))) (by kernel_rfl) (by kernel_rfl) (by kernel_rfl) (by kernel_rfl) (fun _ _ _ h => h) rfl ?y3_15 HS0 ?r3_15
          case y3_15 => intro wx hx; obtain ⟨y0, y1, y2, y3, y4, y5, y6, y7⟩ := hx; go_simp; try (with_reducible rfl)
          simp only [Act.put, List.setIfInBounds_toArray, List.set_cons_zero, List.set_cons_succ]
          refine anyL_take (i := 4) (v := ?v4_16) (atS (atS (atS (atS at0)))) (by kernel_rfl) (by kernel_rfl) (by kernel_rfl) (by kernel_rfl) (fun _ _ _ h => h) rfl ?y4_16 HS0 ?r4_16
          case y4_16 => intro wx hx; obtain ⟨y0, y1, y2, y3, y4, y5, y6, y7⟩ := hx; go_simp; try (with_reducible rfl)
          simp only [Act.put, List.setIfInBounds_toArray, List.set_cons_zero, List.set_cons_succ]
          refine anyL_take (i := 5) (v := ?v5_17) (atS (atS (atS (atS (atS at0))))) (by kernel_rfl) (by kernel_rfl) (by kernel_rfl) (by kernel_rfl) (fun _ _ _ h => h) rfl ?y5_17 HS0 ?r5_17
          case y5_17 => intro wx hx; obtain ⟨y0, y1, y2, y3, y4, y5, y6, y7⟩ := hx; go_simp; try (with_reducible rfl)
          simp only [Act.put, List.setIfInBounds_toArray, List.set_cons_zero, List.set_cons_succ]
          refine anyL_take (i := 6) (v := ?v6_18) (atS (atS (atS (atS (atS (atS at0)))))) (by kernel_rfl) (by kernel_rfl) (by kernel_rfl) (by kernel_rfl) (fun _ _ _ h => h) rfl ?y6_18 HS0 ?r6_18
          case y6_18 => intro wx hx; obtain ⟨y0, y1, y2, y3, y4, y5, y6, y7⟩ := hx; go_simp; try (with_reducible rfl)
          simp only [Act.put, List.setIfInBounds_toArray, List.set_cons_zero, List.set_cons_succ]
          refine anyL_one (i := 7) (atS (atS (atS (atS (atS (atS (atS at0))))))) (by kernel_rfl) rfl (fun K hK => ?_)
          go_simp
          with_reducible refine (HXX.out _ (by exact hM.out.below.drew)).mono ?_
          rintro e w6 ⟨vr, rfl, ho6, hb6⟩
          have M6 := hidP ((hM.out.later hD).later hb6)
          have HO6 := hidP ho6
          have HS6 : HeldCo w.heap.size za zb (.slice aa na capa) (.slice ab nb capb) C (.slice (some ⟨bt, ot, none⟩) L.length ct5) bt (ot + q * 3) (p : Int) (r : Int) t2 w6 := HS0.below hb6 (by have := hM.out.size; show _ < w5.heap.size; omega) hM.out.cpo.blk.lt hbtl
          clear ho6 hb6 HS0 HXX
          obtain ⟨ar6, nr6, cr6, hvr⟩ := slThree HO6.out.sl
          subst hvr
          refine hK _ _ (.inr HS6) ?_
          try simp only [Act.put, List.setIfInBounds_toArray, List.set_cons_zero, List.set_cons_succ]
          refine anyL_take (i := 8) (v := ?v8_19) (atS (atS (atS (atS (atS (atS (atS (atS at0)))))))) (by kernel_rfl) (by kernel_rfl) (by kernel_rfl) (by kernel_rfl) (fun _ _ _ h => h) rfl ?y8_19 HS6 ?r8_19
          case y8_19 => intro wx hx; obtain ⟨y0, y1, y2, y3, y4, y5, y6, y7⟩ := hx; go_simp; try (with_reducible rfl)
          simp only [Act.put, List.setIfInBounds_toArray, List.set_cons_zero, List.set_cons_succ]
          refine anyL_take (i := 9) (v := ?v9_20) (atS (atS (atS (atS (atS (atS (atS (atS (atS at0))))))))) (by kernel_rfl) (by kernel_rfl) (by kernel_rfl) (by kernel_rfl) (fun _ _ _ h => h) rfl ?y9_20 HS6 ?r9_20
          case y9_20 => intro wx hx; obtain ⟨y0, y1, y2, y3, y4, y5, y6, y7⟩ := hx; go_simp; try (with_reducible rfl)
          simp only [Act.put, List.setIfInBounds_toArray, List.set_cons_zero, List.set_cons_succ]
          refine anyL_take (i := 10) (v := ?v10_21) (atS (atS (atS (atS (atS (atS (atS (atS (atS (atS at0)))))))))) (by kernel_rfl) (by kernel_rfl) (by kernel_rfl) (by kernel_rfl) (fun _ _ _ h => h) rfl ?y10_21 HS6 ?r10_21
          case y10_21 => intro wx hx; obtain ⟨y0, y1, y2, y3, y4, y5, y6, y7⟩ := hx; go_simp; try (with_reducible rfl)
          simp only [Act.put, List.setIfInBounds_toArray, List.set_cons_zero, List.set_cons_succ]
          refine anyL_take (i := 11) (v := ?v11_22) (atS (atS (atS (atS (atS (atS (atS (atS (atS (atS (atS at0))))))))))) (by kernel_rfl) (by kernel_rfl) (by kernel_rfl) (by kernel_rfl) (fun _ _ _ h => h) rfl ?y11_22 HS6 ?r11_22
          case y11_22 => intro wx hx; obtain ⟨y0, y1, y2, y3, y4, y5, y6, y7⟩ := hx; go_simp; try (with_reducible rfl)
          simp only [Act.put, List.setIfInBounds_toArray, List.set_cons_zero, List.set_cons_succ]
          refine anyL_one (i := 12) (atS (atS (atS (atS (atS (atS (atS (atS (atS (atS (atS (atS at0)))))))))))) (by kernel_rfl) rfl (fun K hK => ?_)
          go_simp
          refine hK _ _ (.inr HS6) ?_
          try simp only [Act.put, List.setIfInBounds_toArray, List.set_cons_zero, List.set_cons_succ]
          refine anyL_one (i := 13) (atS (atS (atS (atS (atS (atS (atS (atS (atS (atS (atS (atS (atS at0))))))))))))) (by kernel_rfl) rfl (fun K hK => ?_)
          go_simp
          refine hK _ _ (.inr HS6) ?_
          try simp only [Act.put, List.setIfInBounds_toArray, List.set_cons_zero, List.set_cons_succ]
          refine anyL_one (i := 14) (atS (atS (atS (atS (atS (atS (atS (atS (atS (atS (atS (atS (atS (atS at0)))))))))))))) (by kernel_rfl) rfl (fun K hK => ?_)
          go_simp
          refine hK _ _ (.inl rfl) (anyL_done (by kernel_rfl) (NoPanic.normal ?_))
          try simp only [Act.put, List.setIfInBounds_toArray, List.set_cons_zero, List.set_cons_succ]
          clear HS6
          have HAD := hidP (add_full w6 (w.heap.size + 3) C mb _ vs5 (.slice ar6 nr6 cr6) L S (n : Int) FT XT M6.out.cpo M6.out.sts (ownMono HO6.out (by show w.heap.size + 3 ≤ w5.heap.size; exact hM.out.size)) HND.out hl60 (by omega) (by omega) HSM.out HLX.out hSl M6.out.size HFU.out)
          go_wp2_with (first
            | (go_at_call 36; (with_reducible refine HAD.out.mono ?_); rintro e w7 ⟨rfl, hb7⟩; have B7 := hidP hb7; have R7 := hidP (M6.out.bxR.below hb7 (by omega)); have bR0 := R7.out.cell 0 (v := .int .i64 0) rfl; have bR1 := R7.out.cell 1 (v := .slice none 0 0) rfl; have fR0 := R7.out.fz 0; have fR1 := R7.out.fz 1; clear hb7))
          have hXE : X = ((0, []), 5) := HX.out.symm.trans HA5.out
          subst hXE
          have B8 := M6.out.below.trans (B7.out.mono (by omega))
          exact bodyPost_ret (res_cmpP _ _ (w.heap.size + 1 + 1) 5 _ _ ((R7.out.set 0 (.int .i64 0)).set 1 (.slice none 0 0)) rfl rfl) rfl ⟨_, rfl, mach_zeroR _, (B8.setCell (p := ⟨w.heap.size + 1 + 1, 0, none⟩) (by show w.heap.size ≤ w.heap.size + 1 + 1; omega) _).setCell (p := ⟨w.heap.size + 1 + 1, 1, none⟩) (by show w.heap.size ≤ w.heap.size + 1 + 1; omega) _⟩
        · have hNF : n + XT.length ≤ 400 ∧ (cpL XT L XT.length).length ≤ 60 := by
            by_cases h0 : XT.length = 0
            · rw [h0, cpL_zero]
              omega
            · have h9 : ¬ FulI XT L (n : Int) (XT.length - 1) := fun h => hful ⟨XT.length - 1, by omega, h⟩
              unfold FulI at h9
              rw [show XT.length - 1 + 1 = XT.length by omega] at h9
              omega
          have HN2 := hidP (HNXT.out hE0 hNF.1 hNF.2)
          have HT2 : Hid (∀ t ∈ cpL XT L XT.length, trB a b t = true) := cpL_all2 hT.out HNT.out _ (Nat.le_refl _)
          have HFU := hidP hful
          clear HE hE0 HERR HFUL HNXT hO hful hNF
          go_wp2
          refine region_anyL (HeldCo w.heap.size za zb (.slice aa na capa) (.slice ab nb capb) C (.slice (some ⟨bt, ot, none⟩) L.length ct5) bt (ot + q * 3) (p : Int) (r : Int) t2) 14 (by kernel_rfl) ?_
          refine anyL_take (i := 0) (v := ?v0_23) at0 (by kernel_rfl) (by kernel_rfl) (by kernel_rfl) (by kernel_rfl) (fun _ _ _ h => h) rfl ?y0_23 HS0 ?r0_23
          case y0_23 => intro wx hx; obtain ⟨y0, y1, y2, y3, y4, y5, y6, y7⟩ := hx; go_simp; try (with_reducible rfl)
          simp only [Act.put, List.setIfInBounds_toArray, List.set_cons_zero, List.set_cons_succ]
          refine anyL_take (i := 1) (v := ?v1_24) (atS at0) (by kernel_rfl) (by kernel_rfl) (by kernel_rfl) (by kernel_rfl) (fun _ _ _ h => h) rfl ?y1_24 HS0 ?r1_24
          case y1_24 => intro wx hx; obtain ⟨y0, y1, y2, y3, y4, y5, y6, y7⟩ := hx; go_simp; try (with_reducible rfl)
          simp only [Act.put, List.setIfInBounds_toArray, List.set_cons_zero, List.set_cons_succ]
          refine anyL_take (i := 2) (v := ?v2_25) (atS (atS at0)) (by kernel_rfl) (by kernel_rfl) (by kernel_rfl) (by kernel_rfl) (fun _ _ _ h => h) rfl ?y2_25 HS0 ?r2_25
          case y2_25 => intro wx hx; obtain ⟨y0, y1, y2, y3, y4, y5, y6, y7⟩ := hx; go_simp; try (with_reducible rfl)
          simp only [Act.put, List.setIfInBounds_toArray, List.set_cons_zero, List.set_cons_succ]
          refine anyL_take (i := 3) (v := ?v3_26) (atS (atS (atS at0))) (by kernel_rfl) (by kernel_rfl) (by kernel_rfl) (by kernel_rfl) (fun _ _ _ h => h) rfl ?y3_26 HS0 ?r3_26
          case y3_26 => intro wx hx; obtain ⟨y0, y1, y2, y3, y4, y5, y6, y7⟩ := hx; go_simp; try (with_reducible rfl)
          simp only [Act.put, List.setIfInBounds_toArray, List.set_cons_zero, List.set_cons_succ]
          refine anyL_take (i := 4) (v := ?v4_27) (atS (atS (atS (atS at0)))) (by kernel_rfl) (by kernel_rfl) (by kernel_rfl) (by kernel_rfl) (fun _ _ _ h => h) rfl ?y4_27 HS0 ?r4_27
          case y4_27 => intro wx hx; obtain ⟨y0, y1, y2, y3, y4, y5, y6, y7⟩ := hx; go_simp; try (with_reducible rfl)
          simp only [Act.put, List.setIfInBounds_toArray, List.set_cons_zero, List.set_cons_succ]
          refine anyL_take (i := 5) (v := ?v5_28) (atS (atS (atS (atS (atS at0))))) (by kernel_rfl) (by kernel_rfl) (by kernel_rfl) (by kernel_rfl) (fun _ _ _ h => h) rfl ?y5_28 HS0 ?r5_28
          case y5_28 => intro wx hx; obtain ⟨y0, y1, y2, y3, y4, y5, y6, y7⟩ := hx; go_simp; try (with_reducible rfl)
          simp only [Act.put, List.setIfInBounds_toArray, List.set_cons_zero, List.set_cons_succ]
          refine anyL_take (i := 6) (v := ?v6_29) (atS (atS (atS (atS (atS (atS at0)))))) (by kernel_rfl) (by kernel_rfl) (by kernel_rfl) (by kernel_rfl) (fun _ _ _ h => h) rfl ?y6_29 HS0 ?r6_29
          case y6_29 => intro wx hx; obtain ⟨y0, y1, y2, y3, y4, y5, y6, y7⟩ := hx; go_simp; try (with_reducible rfl)
          simp only [Act.put, List.setIfInBounds_toArray, List.set_cons_zero, List.set_cons_succ]
          refine anyL_one (i := 7) (atS (atS (atS (atS (atS (atS (atS at0))))))) (by kernel_rfl) rfl (fun K hK => ?_)
          go_simp
          with_reducible refine (HXX.out _ (by exact hM.out.below.drew)).mono ?_
          rintro e w6 ⟨vr, rfl, ho6, hb6⟩
          have M6 := hidP ((hM.out.later hD).later hb6)
          have HO6 := hidP ho6
          have HS6 : HeldCo w.heap.size za zb (.slice aa na capa) (.slice ab nb capb) C (.slice (some ⟨bt, ot, none⟩) L.length ct5) bt (ot + q * 3) (p : Int) (r : Int) t2 w6 := HS0.below hb6 (by have := hM.out.size; show _ < w5.heap.size; omega) hM.out.cpo.blk.lt hbtl
          clear ho6 hb6 HS0 HXX
          obtain ⟨ar6, nr6, cr6, hvr⟩ := slThree HO6.out.sl
          subst hvr
          refine hK _ _ (.inr HS6) ?_
          try simp only [Act.put, List.setIfInBounds_toArray, List.set_cons_zero, List.set_cons_succ]
          refine anyL_take (i := 8) (v := ?v8_30) (atS (atS (atS (atS (atS (atS (atS (atS at0)))))))) (by kernel_rfl) (by kernel_rfl) (by kernel_rfl) (by kernel_rfl) (fun _ _ _ h => h) rfl ?y8_30 HS6 ?r8_30
          case y8_30 => intro wx hx; obtain ⟨y0, y1, y2, y3, y4, y5, y6, y7⟩ := hx; go_simp; try (with_reducible rfl)
          simp only [Act.put, List.setIfInBounds_toArray, List.set_cons_zero, List.set_cons_succ]
          refine anyL_take (i := 9) (v := ?v9_31) (atS (atS (atS (atS (atS (atS (atS (atS (atS at0))))))))) (by kernel_rfl) (by kernel_rfl) (by kernel_rfl) (by kernel_rfl) (fun _ _ _ h => h) rfl ?y9_31 HS6 ?r9_31
          case y9_31 => intro wx hx; obtain ⟨y0, y1, y2, y3, y4, y5, y6, y7⟩ := hx; go_simp; try (with_reducible rfl)
          simp only [Act.put, List.setIfInBounds_toArray, List.set_cons_zero, List.set_cons_succ]
          refine anyL_take (i := 10) (v := ?v10_32) (atS (atS (atS (atS (atS (atS (atS (atS (atS (atS at0)))))))))) (by kernel_rfl) (by kernel_rfl) (by kernel_rfl) (by kernel_rfl) (fun _ _ _ h => h) rfl ?y10_32 HS6 ?r10_32
          case y10_32 => intro wx hx; obtain ⟨y0, y1, y2, y3, y4, y5, y6, y7⟩ := hx; go_simp; try (with_reducible rfl)
          simp only [Act.put, List.setIfInBounds_toArray, List.set_cons_zero, List.set_cons_succ]
          refine anyL_take (i := 11) (v := ?v11_33) (atS (atS (atS (atS (atS (atS (atS (atS (atS (atS (atS at0))))))))))) (by kernel_rfl) (by kernel_rfl) (by kernel_rfl) (by kernel_rfl) (fun _ _ _ h => h) rfl ?y11_33 HS6 ?r11_33
          case y11_33 => intro wx hx; obtain ⟨y0, y1, y2, y3, y4, y5, y6, y7⟩ := hx; go_simp; try (with_reducible rfl)
          simp only [Act.put, List.setIfInBounds_toArray, List.set_cons_zero, List.set_cons_succ]
          refine anyL_one (i := 12) (atS (atS (atS (atS (atS (atS (atS (atS (atS (atS (atS (atS at0)))))))))))) (by kernel_rfl) rfl (fun K hK => ?_)
          go_simp
          refine hK _ _ (.inr HS6) ?_
          try simp only [Act.put, List.setIfInBounds_toArray, List.set_cons_zero, List.set_cons_succ]
          refine anyL_one (i := 13) (atS (atS (atS (atS (atS (atS (atS (atS (atS (atS (atS (atS (atS at0))))))))))))) (by kernel_rfl) rfl (fun K hK => ?_)
          go_simp
          refine hK _ _ (.inr HS6) ?_
          try simp only [Act.put, List.setIfInBounds_toArray, List.set_cons_zero, List.set_cons_succ]
          refine anyL_one (i := 14) (atS (atS (atS (atS (atS (atS (atS (atS (atS (atS (atS (atS (atS (atS at0)))))))))))))) (by kernel_rfl) rfl (fun K hK => ?_)
          go_simp
          refine hK _ _ (.inl rfl) (anyL_done (by kernel_rfl) (NoPanic.normal ?_))
          try simp only [Act.put, List.setIfInBounds_toArray, List.set_cons_zero, List.set_cons_succ]
          clear HS6
          have HAD := hidP (add_fine w6 (w.heap.size + 3) C mb _ vs5 (.slice ar6 nr6 cr6) L S (n : Int) FT XT M6.out.cpo M6.out.sts (ownMono HO6.out (by show w.heap.size + 3 ≤ w5.heap.size; exact hM.out.size)) HND.out hl60 (by omega) (by omega) HSM.out HLX.out hSl M6.out.size HFU.out)
          go_wp2_with (first
            | (go_at_call 36; (with_reducible refine HAD.out.mono ?_); rintro e w7 ⟨rfl, hb7, vt7, vs7, hc7, hs7⟩; have M7 := hidP (M6.out.next hb7 hc7 hs7); clear hb7 hc7 hs7))
          go_roundw
          case rel => exact ⟨q + 1, n + XT.length, _, _, vt7, vs7, by go_num, HN2, HT2, by rw [Int.natCast_add]; exact M7⟩
          case measure => simp [intOf]; omega
    · have hnl : ¬ (q : Int) < (L.length : Int) := by omega
      have HST := hidP (hI.out.stop hlt)
      have e2 := hM.out.cpo.blk.cell 2 (v := vs5) rfl
      obtain ⟨av, cv, hav⟩ := hM.out.sts.sts.sl
      obtain ⟨nv, hnv⟩ : ∃ nv, S.length = nv := ⟨_, rfl⟩
      rw [hnv] at hav
      clear hnv
      subst hav
      have bR0 := hM.out.bxR.cell 0 (v := .int .i64 0) rfl
      have bR1 := hM.out.bxR.cell 1 (v := .slice none 0 0) rfl
      have fR0 := hM.out.bxR.fz 0
      have fR1 := hM.out.bxR.fz 1
      go_wp2
      have hXE : X = ((0, S), 0) := HX.out.symm.trans HST.out
      subst hXE
      have B8 := (hM.out.below.setCell (p := ⟨w.heap.size + 1 + 1, 0, none⟩) (by show w.heap.size ≤ w.heap.size + 1 + 1; omega) (.int .i64 0)).setCell (p := ⟨w.heap.size + 1 + 1, 1, none⟩) (by show w.heap.size ≤ w.heap.size + 1 + 1; omega) (.slice av nv cv)
      have S8 := (hM.out.sts.setM hM.out.bxR 0 (.int .i64 0)).setM (hM.out.bxR.set 0 (.int .i64 0)) 1 (.slice av nv cv)
      exact bodyPost_ret (res_cmpP _ _ (w.heap.size + 1 + 1) 0 _ _ ((hM.out.bxR.set 0 (.int .i64 0)).set 1 (.slice av nv cv)) rfl rfl) rfl ⟨_, rfl, ⟨_, rfl, S8.sts⟩, B8⟩
end Go.Proofs.Ythcfkiinjcbajaa.Wt
