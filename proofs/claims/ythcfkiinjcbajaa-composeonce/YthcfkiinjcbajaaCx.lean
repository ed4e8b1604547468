/- The program: a triple's Final and hops; two machines composed. -/
import Derived.Test.YthcfkiinjcbajaaFh
namespace Go.Proofs.Ythcfkiinjcbajaa.Wt
open Go.ChangeShapes Go.WideShapes Go.ChangeAt Go.RowKit
open Go.Proofs.Ythcfkiinjcbajaa.Pl
set_option linter.unusedVariables false
set_option linter.unusedSimpArgs false
set_option maxRecDepth 100000 in
theorem composeP_bad (va vb : Value) (a b : Mc) (w : World) (ha : Mach w va a) (hoka : okM a) (hb : Mach w vb b) (hokb : okM b) (r : Int) (hr : (if faultM a ≠ 0 then faultM a else faultM b) = r) (h0 : ¬ r = 0) :
    Calls Try.prog 14 #[va, vb] w fun e w' => RatRes (0, []) r w e w' := by
  have HCK := hidP (fun W (hB : Below w.heap.size w W) => cmpCheck_any va vb a b W (ha.later hB (Nat.le_refl _)) hoka (hb.later hB (Nat.le_refl _)) hokb r hr)
  obtain ⟨vsa, rfl, hSa⟩ := ha
  obtain ⟨vsb, rfl, hSb⟩ := hb
  obtain ⟨aa, capa, rfl⟩ := hSa.sl
  obtain ⟨ab, capb, rfl⟩ := hSb.sl
  have hrn : (r != 0) = true := by simpa using h0
  clear hSa hSb hoka hokb hr h0
  generalize a.2.length = na at *
  generalize b.2.length = nb at *
  generalize a.1 = za at *
  generalize b.1 = zb at *
  go_enter Try.func14, Try.ntmps14
  go_wp2_with (first
    | (go_at_call 26; (with_reducible refine (HCK.out _ (by go_grown)).mono ?_); rintro e w1 ⟨rfl, hb1⟩; obtain ⟨s1, k0, k1, k2, hb1⟩ := boxedThree hb1 (by simp); have HB1 := hidP hb1; have K2 : Hid (Blk w1 (w.heap.size + 1 + 1) #[.int .i64 0, .slice none 0 0] 24) := k2; have bR0 := K2.out.cell 0 (v := .int .i64 0) rfl; have bR1 := K2.out.cell 1 (v := .slice none 0 0) rfl; have fR0 := K2.out.fz 0; have fR1 := K2.out.fz 1; clear k0 k1 k2 hb1 s1 HCK))
  exact bodyPost_ret (res_cmpP _ _ (w.heap.size + 1 + 1) r _ _ ((K2.out.set 0 (.int .i64 0)).set 1 (.slice none 0 0)) rfl rfl) rfl ⟨_, rfl, mach_zeroR _, (HB1.out.setCell (p := ⟨w.heap.size + 1 + 1, 0, none⟩) (by show w.heap.size ≤ w.heap.size + 1 + 1; omega) _).setCell (p := ⟨w.heap.size + 1 + 1, 1, none⟩) (by show w.heap.size ≤ w.heap.size + 1 + 1; omega) _⟩
set_option maxRecDepth 100000 in
theorem composeP_none (va vb : Value) (a b : Mc) (w : World) (ha : Mach w va a) (hoka : okM a) (hb : Mach w vb b) (hokb : okM b) (fa : faultM a = 0) (fb : faultM b = 0) (hz : a.1 < 0 ∨ b.1 < 0) :
    Calls Try.prog 14 #[va, vb] w fun e w' => RatRes (-1, []) 0 w e w' := by
  have HCK := hidP (fun W (hB : Below w.heap.size w W) => cmpCheck_any va vb a b W (ha.later hB (Nat.le_refl _)) hoka (hb.later hB (Nat.le_refl _)) hokb 0 (by rw [if_neg (fun h => h fa)]; exact fb))
  have ra := (right_parts fa).1
  have rb := (right_parts fb).1
  have HNO : Hid (∀ W : World, Mach W (.agg #[.int .i64 (-1), .slice none 0 0]) (-1, [])) := fun W => ⟨_, rfl, (OwnSts.nil W 0).sts⟩
  obtain ⟨vsa, rfl, hSa⟩ := ha
  obtain ⟨vsb, rfl, hSb⟩ := hb
  obtain ⟨aa, capa, rfl⟩ := hSa.sl
  obtain ⟨ab, capb, rfl⟩ := hSb.sl
  clear hSa hSb hoka hokb fa fb
  generalize a.2.length = na at *
  generalize b.2.length = nb at *
  generalize a.1 = za at *
  generalize b.1 = zb at *
  have hc : za = -1 ∨ (za == -1) = false ∧ zb = -1 := by
    by_cases g : za = -1
    · exact .inl g
    · exact .inr ⟨by simpa using g, by omega⟩
  clear hz ra rb
  rcases hc with hz | ⟨hz, hz2⟩
  · subst hz
    go_enter Try.func14, Try.ntmps14
    go_wp2_with (first
      | (go_at_call 26; (with_reducible refine (HCK.out _ (by go_grown)).mono ?_); rintro e w1 ⟨rfl, hb1⟩; obtain ⟨s1, k0, k1, k2, hb1⟩ := boxedThree hb1 (by simp); have HB1 := hidP hb1; have K2 : Hid (Blk w1 (w.heap.size + 1 + 1) #[.int .i64 0, .slice none 0 0] 24) := k2; have bR0 := K2.out.cell 0 (v := .int .i64 0) rfl; have bR1 := K2.out.cell 1 (v := .slice none 0 0) rfl; have fR0 := K2.out.fz 0; have fR1 := K2.out.fz 1; have c0 := k0.cell 0 (v := .int .i64 (-1)) rfl; have d0 := k1.cell 0 (v := .int .i64 zb) rfl; clear k0 k1 k2 hb1 s1 HCK))
    exact bodyPost_ret (res_cmpP _ _ (w.heap.size + 1 + 1) 0 _ _ ((K2.out.set 0 (.int .i64 (-1))).set 1 (.slice none 0 0)) rfl rfl) rfl ⟨_, rfl, HNO.out _, (HB1.out.setCell (p := ⟨w.heap.size + 1 + 1, 0, none⟩) (by show w.heap.size ≤ w.heap.size + 1 + 1; omega) _).setCell (p := ⟨w.heap.size + 1 + 1, 1, none⟩) (by show w.heap.size ≤ w.heap.size + 1 + 1; omega) _⟩
  · subst hz2
    go_enter Try.func14, Try.ntmps14
    go_wp2_with (first
      | (go_at_call 26; (with_reducible refine (HCK.out _ (by go_grown)).mono ?_); rintro e w1 ⟨rfl, hb1⟩; obtain ⟨s1, k0, k1, k2, hb1⟩ := boxedThree hb1 (by simp); have HB1 := hidP hb1; have K2 : Hid (Blk w1 (w.heap.size + 1 + 1) #[.int .i64 0, .slice none 0 0] 24) := k2; have bR0 := K2.out.cell 0 (v := .int .i64 0) rfl; have bR1 := K2.out.cell 1 (v := .slice none 0 0) rfl; have fR0 := K2.out.fz 0; have fR1 := K2.out.fz 1; have c0 := k0.cell 0 (v := .int .i64 za) rfl; have d0 := k1.cell 0 (v := .int .i64 (-1)) rfl; clear k0 k1 k2 hb1 s1 HCK))
    exact bodyPost_ret (res_cmpP _ _ (w.heap.size + 1 + 1) 0 _ _ ((K2.out.set 0 (.int .i64 (-1))).set 1 (.slice none 0 0)) rfl rfl) rfl ⟨_, rfl, HNO.out _, (HB1.out.setCell (p := ⟨w.heap.size + 1 + 1, 0, none⟩) (by show w.heap.size ≤ w.heap.size + 1 + 1; omega) _).setCell (p := ⟨w.heap.size + 1 + 1, 1, none⟩) (by show w.heap.size ≤ w.heap.size + 1 + 1; omega) _⟩
/-- Compose, at every argument. -/
theorem composeP_any (va vb : Value) (a b : Mc) (w : World) (ha : Mach w va a) (hoka : okM a) (hb : Mach w vb b) (hokb : okM b) :
    Calls Try.prog 14 #[va, vb] w fun e w' => RatRes (cpsA a b).1 (cpsA a b).2 w e w' := by
  by_cases fa : faultM a = 0
  · by_cases fb : faultM b = 0
    · by_cases hz : a.1 < 0 ∨ b.1 < 0
      · have e : cpsA a b = ((-1, []), 0) := by unfold cpsA; rw [if_neg (fun h => h fa), if_neg (fun h => h fb), if_pos hz]
        rw [e]
        exact composeP_none va vb a b w ha hoka hb hokb fa fb hz
      · exact composeP_ok va vb a b w ha hoka hb hokb fa fb (by omega) (by omega)
    · have e : cpsA a b = ((0, []), faultM b) := by unfold cpsA; rw [if_neg (fun h => h fa), if_pos fb]
      rw [e]
      exact composeP_bad va vb a b w ha hoka hb hokb _ (by rw [if_neg (fun h => h fa)]) fb
  · have e : cpsA a b = ((0, []), faultM a) := by unfold cpsA; rw [if_pos fa]
    rw [e]
    exact composeP_bad va vb a b w ha hoka hb hokb _ (by rw [if_pos fa]) fa
set_option maxRecDepth 100000 in
theorem isStateP_any (v : Value) (m : Mc) (q : Int) (w : World) (h : Mach w v m) (hl : m.2.length ≤ 60) (r : Bool) (hr : inB q 0 ((m.2.length : Int) - 1) = r) :
    Calls Try.prog 27 #[v, .int .i64 q] w fun e w' => e = .returned (.bool r) ∧ Below w.heap.size w w' := by
  obtain ⟨vs, rfl, hS⟩ := h
  obtain ⟨a, cap, rfl⟩ := hS.sl
  subst hr
  clear hS
  generalize m.2.length = n at *
  generalize m.1 = z at *
  have HB := hidP ((Below.refl w.heap.size w).alloc (Nat.le_refl _) (.cells #[.int .i64 z, .slice a n cap] 24))
  by_cases h0 : 0 ≤ q
  · by_cases h1 : q < (n : Int)
    · have HE : Hid (inB q 0 ((n : Int) - 1) = true) := by show _ = _; simp [inB]; omega
      go_enter Try.func27, Try.ntmps27
      go_wp2
      go_ret
      exact ⟨by rw [HE.out]; rfl, HB.out⟩
    · have HE : Hid (inB q 0 ((n : Int) - 1) = false) := by show _ = _; simp [inB]; omega
      go_enter Try.func27, Try.ntmps27
      go_wp2
      go_ret
      exact ⟨by rw [HE.out]; rfl, HB.out⟩
  · have HE : Hid (inB q 0 ((n : Int) - 1) = false) := by show _ = _; simp [inB]; omega
    have hd : decide (0 ≤ q) = false := decide_eq_false h0
    go_enter Try.func27, Try.ntmps27
    go_wp2
    go_ret
    exact ⟨by rw [HE.out]; rfl, HB.out⟩
set_option maxRecDepth 100000 in
theorem isFilterP_any (f : Int) (w : World) (r : Bool) (hr : inB f 0 2 = r) :
    Calls Try.prog 28 #[.int .i64 f] w fun e w' => e = .returned (.bool r) ∧ Below w.heap.size w w' := by
  subst hr
  by_cases h0 : f = 0
  · subst h0
    go_enter Try.func28, Try.ntmps28
    go_wp2
    go_ret
    exact ⟨rfl, Below.refl _ _⟩
  · have e0 : (f == 0) = false := by simpa using h0
    by_cases h1 : f = 1
    · subst h1
      go_enter Try.func28, Try.ntmps28
      go_wp2
      go_ret
      exact ⟨rfl, Below.refl _ _⟩
    · have e1 : (f == 1) = false := by simpa using h1
      by_cases h2 : f = 2
      · subst h2
        go_enter Try.func28, Try.ntmps28
        go_wp2
        go_ret
        exact ⟨rfl, Below.refl _ _⟩
      · have e2 : (f == 2) = false := by simpa using h2
        have HE : Hid (inB f 0 2 = false) := by show _ = _; simp [inB]; omega
        clear h0 h1 h2
        go_enter Try.func28, Try.ntmps28
        go_wp2
        go_ret
        exact ⟨by rw [HE.out]; rfl, Below.refl _ _⟩
set_option maxRecDepth 100000 in
set_option maxHeartbeats 3200000 in
theorem expandP_any (va vb : Value) (a b : Mc) (t : Tr) (w : World) (ha : Mach w va a) (hoka : okM a) (hb : Mach w vb b) (hokb : okM b) :
    Calls Try.prog 10 #[va, vb, .agg #[.int .i64 t.1, .int .i64 t.2.1, .int .i64 t.2.2]] w fun e w' => ExpRes (expF a b t) (expR a b t) (expE a b t) w e w' := by
  obtain ⟨r, hr⟩ : ∃ r, (if faultM a ≠ 0 then faultM a else faultM b) = r := ⟨_, rfl⟩
  have HCK := hidP (fun W (hB : Below w.heap.size w W) => cmpCheck_any va vb a b W (ha.later hB (Nat.le_refl _)) hoka (hb.later hB (Nat.le_refl _)) hokb r hr)
  have hEr : ¬ r = 0 → expE a b t = r := fun h => by
    unfold expE
    by_cases fa : faultM a = 0
    · rw [if_neg (fun k => k fa)] at hr
      rw [if_neg (fun k => k fa), if_pos (by rw [hr]; exact h), hr]
    · rw [if_pos fa] at hr
      rw [if_pos fa, hr]
  by_cases h0 : r = 0
  rotate_left
  · have hEE := hEr h0
    have hF : expF a b t = 0 := by unfold expF; rw [hEE, if_neg h0]
    have hR : expR a b t = [] := by unfold expR; rw [hEE, if_neg h0]
    rw [hF, hR, hEE]
    obtain ⟨vsa, rfl, hSa⟩ := ha
    obtain ⟨vsb, rfl, hSb⟩ := hb
    obtain ⟨aa, capa, rfl⟩ := hSa.sl
    obtain ⟨ab, capb, rfl⟩ := hSb.sl
    obtain ⟨t0, t1, t2⟩ := t
    have hrn : (r != 0) = true := by simpa using h0
    clear hSa hSb hoka hokb hr h0 hEr hEE hF hR
    generalize a.2.length = na at *
    generalize b.2.length = nb at *
    generalize a.1 = za at *
    generalize b.1 = zb at *
    simp only
    go_enter Try.func10, Try.ntmps10
    go_wp2_with (first
      | (go_at_call 26; (with_reducible refine (HCK.out _ (by go_grown)).mono ?_); rintro e w1 ⟨rfl, hb1⟩; obtain ⟨s1, k0, k1, k2, hb1⟩ := boxedThree hb1 (by simp); have HB1 := hidP hb1; clear k0 k1 k2 hb1 s1 HCK))
    go_returns
    exact ⟨_, rfl, Hps.nil _, HB1.out⟩
  · subst h0
    have fa : faultM a = 0 := by
      by_cases h : faultM a = 0
      · exact h
      · rw [if_pos h] at hr; exact hr
    have fb : faultM b = 0 := by rw [if_neg (fun k => k fa)] at hr; exact hr
    have n60 := (right_size (z := a.1) (l := a.2) fa).1
    have m60 := (right_size (z := b.1) (l := b.2) fb).1
    have HIA := hidP (fun W (hB : Below w.heap.size w W) r hr => isStateP_any va a t.1 W (ha.later hB (Nat.le_refl _)) n60 r hr)
    have HIB := hidP (fun W (hB : Below w.heap.size w W) r hr => isStateP_any vb b t.2.1 W (hb.later hB (Nat.le_refl _)) m60 r hr)
    have HIF := hidP (fun W r hr => isFilterP_any t.2.2 W r hr)
    have HEX := hidP (fun W p q f (hB : Below w.heap.size w W) hp hq => expandedQ_any W va vb a b p q f (ha.later hB (Nat.le_refl _)) (hb.later hB (Nat.le_refl _)) fa fb hp hq)
    have hnot : ∀ (x : Bool) (w : World), (Op.unary .not (.bool x)).run Try.prog w = .ok (.bool (!x)) w := fun _ _ => rfl
    have hEb : trB a b t = false → expE a b t = 13 := fun h => by
      unfold expE
      rw [if_neg (fun k => k fa), if_neg (fun k => k fb), if_pos h]
    have hEt := fun h => expE_tr fa fb (t := t) h
    obtain ⟨bA, hbA⟩ : ∃ bA, inB t.1 0 ((a.2.length : Int) - 1) = bA := ⟨_, rfl⟩
    obtain ⟨bB, hbB⟩ : ∃ bB, inB t.2.1 0 ((b.2.length : Int) - 1) = bB := ⟨_, rfl⟩
    obtain ⟨bF, hbF⟩ : ∃ bF, inB t.2.2 0 2 = bF := ⟨_, rfl⟩
    have hTB : trB a b t = (bA && bB && bF) := by unfold trB; rw [hbA, hbB, hbF]
    have HIA := hidP (fun W (hB : Below w.heap.size w W) => HIA.out W hB bA hbA)
    have HIB := hidP (fun W (hB : Below w.heap.size w W) => HIB.out W hB bB hbB)
    have HIF := hidP (fun W => HIF.out W bF hbF)
    by_cases hall : (bA && bB && bF) = true
    rotate_left
    · have hEE := hEb (by rw [hTB]; simpa using hall)
      have hF : expF a b t = 0 := by unfold expF; rw [hEE, if_neg (by decide)]
      have hR : expR a b t = [] := by unfold expR; rw [hEE, if_neg (by decide)]
      rw [hF, hR, hEE]
      obtain ⟨vsa, rfl, hSa⟩ := ha
      obtain ⟨vsb, rfl, hSb⟩ := hb
      obtain ⟨aa, capa, rfl⟩ := hSa.sl
      obtain ⟨ab, capb, rfl⟩ := hSb.sl
      clear hSa hSb hoka hokb hr hEr hEE hF hR hEb hEt hTB HEX fa fb hbA hbB hbF
      obtain ⟨t0, t1, t2⟩ := t
      generalize a.2.length = na at *
      generalize b.2.length = nb at *
      generalize a.1 = za at *
      generalize b.1 = zb at *
      simp only at *
      cases bA
      · clear hall
        go_enter Try.func10, Try.ntmps10
        go_wp2_with (first
          | (go_at_call 26; (with_reducible refine (HCK.out _ (by go_grown)).mono ?_); rintro e w1 ⟨rfl, hb1⟩; obtain ⟨s1, k0, k1, k2, hb1⟩ := boxedThree hb1 (by simp); have HB1 := hidP hb1; have K0 := hidP k0; have K1 := hidP k1; have K2 := hidP k2; have d0a0 := K0.out.cell 0 (v := .int .i64 za) rfl; have d0a1 := K0.out.cell 1 (v := .slice aa na capa) rfl; have d0b0 := K1.out.cell 0 (v := .int .i64 zb) rfl; have d0b1 := K1.out.cell 1 (v := .slice ab nb capb) rfl; have d0t0 := K2.out.cell 0 (v := .int .i64 t0) rfl; have d0t1 := K2.out.cell 1 (v := .int .i64 t1) rfl; have d0t2 := K2.out.cell 2 (v := .int .i64 t2) rfl; clear k0 k1 k2 hb1 s1 HCK)
          | (go_at_call 27; (with_reducible refine (HIA.out _ HB1.out).mono ?_); rintro e w2 ⟨rfl, hb2⟩; have HB2 := hidP (HB1.out.trans (hb2.mono HB1.out.size)); have L0 := hidP (K0.out.below hb2 K0.out.lt); have L1 := hidP (K1.out.below hb2 K1.out.lt); have L2 := hidP (K2.out.below hb2 K2.out.lt); have d1a0 := L0.out.cell 0 (v := .int .i64 za) rfl; have d1a1 := L0.out.cell 1 (v := .slice aa na capa) rfl; have d1b0 := L1.out.cell 0 (v := .int .i64 zb) rfl; have d1b1 := L1.out.cell 1 (v := .slice ab nb capb) rfl; have d1t0 := L2.out.cell 0 (v := .int .i64 t0) rfl; have d1t1 := L2.out.cell 1 (v := .int .i64 t1) rfl; have d1t2 := L2.out.cell 2 (v := .int .i64 t2) rfl; clear hb2 HIA))
        go_returns
        exact ⟨_, rfl, Hps.nil _, HB2.out⟩
      · cases bB
        · clear hall
          go_enter Try.func10, Try.ntmps10
          go_wp2_with (first
            | (go_at_call 26; (with_reducible refine (HCK.out _ (by go_grown)).mono ?_); rintro e w1 ⟨rfl, hb1⟩; obtain ⟨s1, k0, k1, k2, hb1⟩ := boxedThree hb1 (by simp); have HB1 := hidP hb1; have K0 := hidP k0; have K1 := hidP k1; have K2 := hidP k2; have d0a0 := K0.out.cell 0 (v := .int .i64 za) rfl; have d0a1 := K0.out.cell 1 (v := .slice aa na capa) rfl; have d0b0 := K1.out.cell 0 (v := .int .i64 zb) rfl; have d0b1 := K1.out.cell 1 (v := .slice ab nb capb) rfl; have d0t0 := K2.out.cell 0 (v := .int .i64 t0) rfl; have d0t1 := K2.out.cell 1 (v := .int .i64 t1) rfl; have d0t2 := K2.out.cell 2 (v := .int .i64 t2) rfl; clear k0 k1 k2 hb1 s1 HCK)
            | (go_at_call 27; (with_reducible refine (HIA.out _ HB1.out).mono ?_); rintro e w2 ⟨rfl, hb2⟩; have HB2 := hidP (HB1.out.trans (hb2.mono HB1.out.size)); have L0 := hidP (K0.out.below hb2 K0.out.lt); have L1 := hidP (K1.out.below hb2 K1.out.lt); have L2 := hidP (K2.out.below hb2 K2.out.lt); have d1a0 := L0.out.cell 0 (v := .int .i64 za) rfl; have d1a1 := L0.out.cell 1 (v := .slice aa na capa) rfl; have d1b0 := L1.out.cell 0 (v := .int .i64 zb) rfl; have d1b1 := L1.out.cell 1 (v := .slice ab nb capb) rfl; have d1t0 := L2.out.cell 0 (v := .int .i64 t0) rfl; have d1t1 := L2.out.cell 1 (v := .int .i64 t1) rfl; have d1t2 := L2.out.cell 2 (v := .int .i64 t2) rfl; clear hb2 HIA)
            | (go_at_call 27; (with_reducible refine (HIB.out _ HB2.out).mono ?_); rintro e w3 ⟨rfl, hb3⟩; have HB3 := hidP (HB2.out.trans (hb3.mono HB2.out.size)); have M0 := hidP (L0.out.below hb3 L0.out.lt); have M1 := hidP (L1.out.below hb3 L1.out.lt); have M2 := hidP (L2.out.below hb3 L2.out.lt); have d2a0 := M0.out.cell 0 (v := .int .i64 za) rfl; have d2a1 := M0.out.cell 1 (v := .slice aa na capa) rfl; have d2b0 := M1.out.cell 0 (v := .int .i64 zb) rfl; have d2b1 := M1.out.cell 1 (v := .slice ab nb capb) rfl; have d2t0 := M2.out.cell 0 (v := .int .i64 t0) rfl; have d2t1 := M2.out.cell 1 (v := .int .i64 t1) rfl; have d2t2 := M2.out.cell 2 (v := .int .i64 t2) rfl; clear hb3 HIB))
          go_returns
          exact ⟨_, rfl, Hps.nil _, HB3.out⟩
        · have e : bF = false := by simpa using hall
          subst e
          clear hall
          go_enter Try.func10, Try.ntmps10
          go_wp2_with (first
            | (go_at_call 26; (with_reducible refine (HCK.out _ (by go_grown)).mono ?_); rintro e w1 ⟨rfl, hb1⟩; obtain ⟨s1, k0, k1, k2, hb1⟩ := boxedThree hb1 (by simp); have HB1 := hidP hb1; have K0 := hidP k0; have K1 := hidP k1; have K2 := hidP k2; have d0a0 := K0.out.cell 0 (v := .int .i64 za) rfl; have d0a1 := K0.out.cell 1 (v := .slice aa na capa) rfl; have d0b0 := K1.out.cell 0 (v := .int .i64 zb) rfl; have d0b1 := K1.out.cell 1 (v := .slice ab nb capb) rfl; have d0t0 := K2.out.cell 0 (v := .int .i64 t0) rfl; have d0t1 := K2.out.cell 1 (v := .int .i64 t1) rfl; have d0t2 := K2.out.cell 2 (v := .int .i64 t2) rfl; clear k0 k1 k2 hb1 s1 HCK)
            | (go_at_call 27; (with_reducible refine (HIA.out _ HB1.out).mono ?_); rintro e w2 ⟨rfl, hb2⟩; have HB2 := hidP (HB1.out.trans (hb2.mono HB1.out.size)); have L0 := hidP (K0.out.below hb2 K0.out.lt); have L1 := hidP (K1.out.below hb2 K1.out.lt); have L2 := hidP (K2.out.below hb2 K2.out.lt); have d1a0 := L0.out.cell 0 (v := .int .i64 za) rfl; have d1a1 := L0.out.cell 1 (v := .slice aa na capa) rfl; have d1b0 := L1.out.cell 0 (v := .int .i64 zb) rfl; have d1b1 := L1.out.cell 1 (v := .slice ab nb capb) rfl; have d1t0 := L2.out.cell 0 (v := .int .i64 t0) rfl; have d1t1 := L2.out.cell 1 (v := .int .i64 t1) rfl; have d1t2 := L2.out.cell 2 (v := .int .i64 t2) rfl; clear hb2 HIA)
            | (go_at_call 27; (with_reducible refine (HIB.out _ HB2.out).mono ?_); rintro e w3 ⟨rfl, hb3⟩; have HB3 := hidP (HB2.out.trans (hb3.mono HB2.out.size)); have M0 := hidP (L0.out.below hb3 L0.out.lt); have M1 := hidP (L1.out.below hb3 L1.out.lt); have M2 := hidP (L2.out.below hb3 L2.out.lt); have d2a0 := M0.out.cell 0 (v := .int .i64 za) rfl; have d2a1 := M0.out.cell 1 (v := .slice aa na capa) rfl; have d2b0 := M1.out.cell 0 (v := .int .i64 zb) rfl; have d2b1 := M1.out.cell 1 (v := .slice ab nb capb) rfl; have d2t0 := M2.out.cell 0 (v := .int .i64 t0) rfl; have d2t1 := M2.out.cell 1 (v := .int .i64 t1) rfl; have d2t2 := M2.out.cell 2 (v := .int .i64 t2) rfl; clear hb3 HIB)
            | (go_at_call 28; (with_reducible refine (HIF.out _).mono ?_); rintro e w4 ⟨rfl, hb4⟩; have HB4 := hidP (HB3.out.trans (hb4.mono HB3.out.size)); have N0 := hidP (M0.out.below hb4 M0.out.lt); have N1 := hidP (M1.out.below hb4 M1.out.lt); have N2 := hidP (M2.out.below hb4 M2.out.lt); have d3a0 := N0.out.cell 0 (v := .int .i64 za) rfl; have d3a1 := N0.out.cell 1 (v := .slice aa na capa) rfl; have d3b0 := N1.out.cell 0 (v := .int .i64 zb) rfl; have d3b1 := N1.out.cell 1 (v := .slice ab nb capb) rfl; have d3t0 := N2.out.cell 0 (v := .int .i64 t0) rfl; have d3t1 := N2.out.cell 1 (v := .int .i64 t1) rfl; have d3t2 := N2.out.cell 2 (v := .int .i64 t2) rfl; clear hb4 HIF))
          go_returns
          exact ⟨_, rfl, Hps.nil _, HB4.out⟩
    · have htr : trB a b t = true := hTB.trans hall
      have hEE := hEt htr
      obtain ⟨⟨ta, tb⟩, ⟨tc, td⟩, te, tf⟩ := tr_iff.1 htr
      simp only [Bool.and_eq_true] at hall
      obtain ⟨⟨rfl, rfl⟩, rfl⟩ := hall
      have hF : expF a b t = if expO a b t = true then 0 else finTr a b t := by
        unfold expF; rw [hEE]
        by_cases h : expO a b t = true
        · rw [if_pos h, if_pos h]; rfl
        · rw [if_neg h, if_neg h]; rfl
      have hR : expR a b t = if expO a b t = true then [] else expT a b t := by
        unfold expR; rw [hEE]
        by_cases h : expO a b t = true
        · rw [if_pos h, if_pos h]; rfl
        · rw [if_neg h, if_neg h]; rfl
      rw [hF, hR, hEE]
      obtain ⟨t0, t1, t2⟩ := t
      simp only at *
      obtain ⟨p, hp⟩ := Int.eq_ofNat_of_zero_le ta
      obtain ⟨q, hq⟩ := Int.eq_ofNat_of_zero_le tc
      subst hp
      subst hq
      have HXX := hidP (fun W (hB : Below w.heap.size w W) => HEX.out W p q t2 hB (by omega) (by omega))
      obtain ⟨R1, hR1⟩ : ∃ R1 : Int, (if expO a b ((p : Int), (q : Int), t2) = true then 0 else finTr a b ((p : Int), (q : Int), t2)) = R1 := ⟨_, rfl⟩
      obtain ⟨R2, hR2⟩ : ∃ R2 : List Hp, (if expO a b ((p : Int), (q : Int), t2) = true then [] else expT a b ((p : Int), (q : Int), t2)) = R2 := ⟨_, rfl⟩
      obtain ⟨R3, hR3⟩ : ∃ R3 : Int, (if expO a b ((p : Int), (q : Int), t2) = true then 4 else 0) = R3 := ⟨_, rfl⟩
      rw [hR1, hR2, hR3] at HXX ⊢
      obtain ⟨vsa, rfl, hSa⟩ := ha
      obtain ⟨vsb, rfl, hSb⟩ := hb
      obtain ⟨aa, capa, rfl⟩ := hSa.sl
      obtain ⟨ab, capb, rfl⟩ := hSb.sl
      clear hSa hSb hoka hokb hr hEr hEE hF hR hEb hEt hTB HEX fa fb hbA hbB hbF hR1 hR2 hR3 htr ta tb tc td te tf
      generalize a.2.length = na at *
      generalize b.2.length = nb at *
      generalize a.1 = za at *
      generalize b.1 = zb at *
      go_enter Try.func10, Try.ntmps10
      go_wp2_with (first
        | (go_at_call 26; (with_reducible refine (HCK.out _ (by go_grown)).mono ?_); rintro e w1 ⟨rfl, hb1⟩; obtain ⟨s1, k0, k1, k2, hb1⟩ := boxedThree hb1 (by simp); have HB1 := hidP hb1; have K0 := hidP k0; have K1 := hidP k1; have K2 := hidP k2; have d0a0 := K0.out.cell 0 (v := .int .i64 za) rfl; have d0a1 := K0.out.cell 1 (v := .slice aa na capa) rfl; have d0b0 := K1.out.cell 0 (v := .int .i64 zb) rfl; have d0b1 := K1.out.cell 1 (v := .slice ab nb capb) rfl; have d0t0 := K2.out.cell 0 (v := .int .i64 (p : Int)) rfl; have d0t1 := K2.out.cell 1 (v := .int .i64 (q : Int)) rfl; have d0t2 := K2.out.cell 2 (v := .int .i64 t2) rfl; clear k0 k1 k2 hb1 s1 HCK)
        | (go_at_call 27; (with_reducible refine (HIA.out _ HB1.out).mono ?_); rintro e w2 ⟨rfl, hb2⟩; have HB2 := hidP (HB1.out.trans (hb2.mono HB1.out.size)); have L0 := hidP (K0.out.below hb2 K0.out.lt); have L1 := hidP (K1.out.below hb2 K1.out.lt); have L2 := hidP (K2.out.below hb2 K2.out.lt); have d1a0 := L0.out.cell 0 (v := .int .i64 za) rfl; have d1a1 := L0.out.cell 1 (v := .slice aa na capa) rfl; have d1b0 := L1.out.cell 0 (v := .int .i64 zb) rfl; have d1b1 := L1.out.cell 1 (v := .slice ab nb capb) rfl; have d1t0 := L2.out.cell 0 (v := .int .i64 (p : Int)) rfl; have d1t1 := L2.out.cell 1 (v := .int .i64 (q : Int)) rfl; have d1t2 := L2.out.cell 2 (v := .int .i64 t2) rfl; clear hb2 HIA)
        | (go_at_call 27; (with_reducible refine (HIB.out _ HB2.out).mono ?_); rintro e w3 ⟨rfl, hb3⟩; have HB3 := hidP (HB2.out.trans (hb3.mono HB2.out.size)); have M0 := hidP (L0.out.below hb3 L0.out.lt); have M1 := hidP (L1.out.below hb3 L1.out.lt); have M2 := hidP (L2.out.below hb3 L2.out.lt); have d2a0 := M0.out.cell 0 (v := .int .i64 za) rfl; have d2a1 := M0.out.cell 1 (v := .slice aa na capa) rfl; have d2b0 := M1.out.cell 0 (v := .int .i64 zb) rfl; have d2b1 := M1.out.cell 1 (v := .slice ab nb capb) rfl; have d2t0 := M2.out.cell 0 (v := .int .i64 (p : Int)) rfl; have d2t1 := M2.out.cell 1 (v := .int .i64 (q : Int)) rfl; have d2t2 := M2.out.cell 2 (v := .int .i64 t2) rfl; clear hb3 HIB)
        | (go_at_call 28; (with_reducible refine (HIF.out _).mono ?_); rintro e w4 ⟨rfl, hb4⟩; have HB4 := hidP (HB3.out.trans (hb4.mono HB3.out.size)); have N0 := hidP (M0.out.below hb4 M0.out.lt); have N1 := hidP (M1.out.below hb4 M1.out.lt); have N2 := hidP (M2.out.below hb4 M2.out.lt); have d3a0 := N0.out.cell 0 (v := .int .i64 za) rfl; have d3a1 := N0.out.cell 1 (v := .slice aa na capa) rfl; have d3b0 := N1.out.cell 0 (v := .int .i64 zb) rfl; have d3b1 := N1.out.cell 1 (v := .slice ab nb capb) rfl; have d3t0 := N2.out.cell 0 (v := .int .i64 (p : Int)) rfl; have d3t1 := N2.out.cell 1 (v := .int .i64 (q : Int)) rfl; have d3t2 := N2.out.cell 2 (v := .int .i64 t2) rfl; clear hb4 HIF)
        | (go_at_call 29; (with_reducible refine (HXX.out _ HB4.out).mono ?_); rintro e w5 ⟨vr, rfl, ho5, hb5⟩; have HO5 := hidP ho5; have HB5 := hidP (HB4.out.trans (hb5.mono HB4.out.size)); clear ho5 hb5))
      go_returns
      exact ⟨_, rfl, HO5.out.row, HB5.out⟩
end Go.Proofs.Ythcfkiinjcbajaa.Wt
