/- The reference: two machines composed (Composed), at every argument. -/
import Derived.Test.YthcfkiinjcbajaaIa
namespace Go.Proofs.Ythcfkiinjcbajaa.Wt
open Go.ChangeShapes Go.WideShapes Go.ChangeAt Go.RowKit
open Go.Proofs.Ythcfkiinjcbajaa.Pl
set_option linter.unusedVariables false
set_option linter.unusedSimpArgs false
section
variable (za zb : Int) (aa ab : Option Addr) (capa capb : Nat) (la lb : List St) (w : World)
set_option maxRecDepth 100000 in
theorem composed_bad1 (ha : Mach w (.agg #[.int .i64 za, .slice aa la.length capa]) (za, la)) (hoka : okM (za, la)) (r : Int) (fa : faultM (za, la) = r) (hr : ¬ r = 0) (zb' : Int) (vb : Value) :
    Calls Try.prog 15 #[.agg #[.int .i64 za, .slice aa la.length capa], .agg #[.int .i64 zb', vb]] w fun e w' => RatRes (0, []) r w e w' := by
  have HMA := hidP ha
  have HKA := hidP hoka
  have HFA := hidP fa
  have hrb : (r == 0) = false := by simpa using hr
  have hrn : (r != 0) = true := by simpa using hr
  clear ha hoka fa
  generalize la.length = na at *
  go_enter Try.func15, Try.ntmps15
  go_wp2_with (first
    | (go_at_call 30; (with_reducible refine (fault_any _ (za, la) _ (HMA.out.later (B := w.heap.size) (by go_grown) (Nat.le_refl _)) HKA.out r HFA.out).mono ?_); rintro e w1 ⟨rfl, hb⟩; obtain ⟨s1, b1, b2, b3, hb1⟩ := boxedThree hb (by simp); have HB1 : Hid (Below w.heap.size w w1) := hb1; have KR := hidP b3; have e0 := b3.cell 0 (v := .int .i64 0) rfl; have e1 := b3.cell 1 (v := .slice none 0 0) rfl; have g0 := b3.fz 0; have g1 := b3.fz 1; clear b1 b2 b3 hb1 hb))
  exact bodyPost_ret (res_cmp _ _ (w.heap.size + 2) r _ _ ((KR.out.set 0 (.int .i64 0)).set 1 (.slice none 0 0)) rfl rfl) rfl ⟨_, rfl, mach_zeroR _, (HB1.out.setCell (p := ⟨w.heap.size + 2, 0, none⟩) (by show w.heap.size ≤ w.heap.size + 2; omega) _).setCell (p := ⟨w.heap.size + 2, 1, none⟩) (by show w.heap.size ≤ w.heap.size + 2; omega) _⟩
set_option maxRecDepth 100000 in
theorem composed_bad2 (ha : Mach w (.agg #[.int .i64 za, .slice aa la.length capa]) (za, la)) (hoka : okM (za, la)) (hb : Mach w (.agg #[.int .i64 zb, .slice ab lb.length capb]) (zb, lb)) (hokb : okM (zb, lb)) (fa : faultM (za, la) = 0) (r : Int) (fb : faultM (zb, lb) = r) (hr : ¬ r = 0) :
    Calls Try.prog 15 #[.agg #[.int .i64 za, .slice aa la.length capa], .agg #[.int .i64 zb, .slice ab lb.length capb]] w fun e w' => RatRes (0, []) r w e w' := by
  have HMA := hidP ha
  have HMB := hidP hb
  have HKA := hidP hoka
  have HKB := hidP hokb
  have HFA := hidP fa
  have HFB := hidP fb
  have hrn : (r != 0) = true := by simpa using hr
  clear ha hb hoka hokb fa fb
  generalize la.length = na at *
  generalize lb.length = nb at *
  go_enter Try.func15, Try.ntmps15
  go_wp2_with (first
    | (go_at_call 30; (with_reducible refine (fault_any _ (za, la) _ (HMA.out.later (B := w.heap.size) (by go_grown) (Nat.le_refl _)) HKA.out 0 HFA.out).mono ?_); rintro e w1 ⟨rfl, hb⟩; obtain ⟨s1, b1, b2, b3, hb1⟩ := boxedThree hb (by simp); have HB1 : Hid (Below w.heap.size w w1) := hb1; have KR := hidP b3; have p0 := b2.cell 0 (v := .int .i64 zb) rfl; have p1 := b2.cell 1 (v := .slice ab nb capb) rfl; clear b1 b2 b3 hb1 hb)
    | (go_at_call 30; (with_reducible refine (fault_any _ (zb, lb) _ (HMB.out.later HB1.out (Nat.le_refl _)) HKB.out r HFB.out).mono ?_); rintro e w2 ⟨rfl, hb⟩; have HB2 := hidP (HB1.out.trans (hb.mono HB1.out.size)); have KR2 := hidP (KR.out.below hb KR.out.lt); have e0 := KR2.out.cell 0 (v := .int .i64 0) rfl; have e1 := KR2.out.cell 1 (v := .slice none 0 0) rfl; have g0 := KR2.out.fz 0; have g1 := KR2.out.fz 1; clear hb))
  exact bodyPost_ret (res_cmp _ _ (w.heap.size + 2) r _ _ ((KR2.out.set 0 (.int .i64 0)).set 1 (.slice none 0 0)) rfl rfl) rfl ⟨_, rfl, mach_zeroR _, (HB2.out.setCell (p := ⟨w.heap.size + 2, 0, none⟩) (by show w.heap.size ≤ w.heap.size + 2; omega) _).setCell (p := ⟨w.heap.size + 2, 1, none⟩) (by show w.heap.size ≤ w.heap.size + 2; omega) _⟩
set_option maxRecDepth 100000 in
theorem composed_none (ha : Mach w (.agg #[.int .i64 za, .slice aa la.length capa]) (za, la)) (hoka : okM (za, la)) (hb : Mach w (.agg #[.int .i64 zb, .slice ab lb.length capb]) (zb, lb)) (hokb : okM (zb, lb)) (fa : faultM (za, la) = 0) (fb : faultM (zb, lb) = 0) (hz : za < 0 ∨ zb < 0) :
    Calls Try.prog 15 #[.agg #[.int .i64 za, .slice aa la.length capa], .agg #[.int .i64 zb, .slice ab lb.length capb]] w fun e w' => RatRes (-1, []) 0 w e w' := by
  have HMA := hidP ha
  have HMB := hidP hb
  have HKA := hidP hoka
  have HKB := hidP hokb
  have HFA := hidP fa
  have HFB := hidP fb
  have HNO : Hid (∀ W : World, Mach W (.agg #[.int .i64 (-1), .slice none 0 0]) (-1, [])) := fun W => ⟨_, rfl, (OwnSts.nil W 0).sts⟩
  clear ha hb hoka hokb fa fb
  generalize la.length = na at *
  generalize lb.length = nb at *
  have hc : za < 0 ∨ (¬ za < 0 ∧ decide (za < 0) = false ∧ zb < 0) := by
    by_cases g : za < 0
    · exact .inl g
    · exact .inr ⟨g, decide_eq_false g, by omega⟩
  clear hz
  rcases hc with hz | ⟨hz, hzd, hz2⟩
  all_goals
    go_enter Try.func15, Try.ntmps15
    go_wp2_with (first
      | (go_at_call 30; (with_reducible refine (fault_any _ (za, la) _ (HMA.out.later (B := w.heap.size) (by go_grown) (Nat.le_refl _)) HKA.out 0 HFA.out).mono ?_); rintro e w1 ⟨rfl, hb⟩; obtain ⟨s1, b1, b2, b3, hb1⟩ := boxedThree hb (by simp); have HB1 : Hid (Below w.heap.size w w1) := hb1; have KA := hidP b1; have KB := hidP b2; have KR := hidP b3; have p0 := b2.cell 0 (v := .int .i64 zb) rfl; have p1 := b2.cell 1 (v := .slice ab nb capb) rfl; clear b1 b2 b3 hb1 hb)
      | (go_at_call 30; (with_reducible refine (fault_any _ (zb, lb) _ (HMB.out.later HB1.out (Nat.le_refl _)) HKB.out 0 HFB.out).mono ?_); rintro e w2 ⟨rfl, hb⟩; have HB2 := hidP (HB1.out.trans (hb.mono HB1.out.size)); have KA2 := hidP (KA.out.below hb KA.out.lt); have KB2 := hidP (KB.out.below hb KB.out.lt); have KR2 := hidP (KR.out.below hb KR.out.lt); have t0 := KA2.out.cell 0 (v := .int .i64 za) rfl; have t1 := KB2.out.cell 0 (v := .int .i64 zb) rfl; have e0 := KR2.out.cell 0 (v := .int .i64 0) rfl; have e1 := KR2.out.cell 1 (v := .slice none 0 0) rfl; have g0 := KR2.out.fz 0; have g1 := KR2.out.fz 1; clear hb))
    exact bodyPost_ret (res_cmp _ _ (w.heap.size + 2) 0 _ _ ((KR2.out.set 0 (.int .i64 (-1))).set 1 (.slice none 0 0)) rfl rfl) rfl ⟨_, rfl, HNO.out _, (HB2.out.setCell (p := ⟨w.heap.size + 2, 0, none⟩) (by show w.heap.size ≤ w.heap.size + 2; omega) _).setCell (p := ⟨w.heap.size + 2, 1, none⟩) (by show w.heap.size ≤ w.heap.size + 2; omega) _⟩
end
theorem composedR_any (va vb : Value) (a b : Mc) (w : World) (ha : Mach w va a) (hoka : okM a) (hb : Mach w vb b) (hokb : okM b) :
    Calls Try.prog 15 #[va, vb] w fun e w' => RatRes (cpsA a b).1 (cpsA a b).2 w e w' := by
  obtain ⟨za, la⟩ := a
  obtain ⟨zb, lb⟩ := b
  have ha' := ha
  have hb' := hb
  obtain ⟨vsa, rfl, hSa⟩ := ha
  obtain ⟨aa, capa, rfl⟩ := hSa.sl
  obtain ⟨vsb, rfl, hSb⟩ := hb
  obtain ⟨ab, capb, rfl⟩ := hSb.sl
  by_cases fa : faultM (za, la) = 0
  case neg =>
    have e : cpsA (za, la) (zb, lb) = ((0, []), faultM (za, la)) := by unfold cpsA; rw [if_pos fa]
    rw [e]
    exact composed_bad1 za aa capa la w ha' hoka _ rfl fa zb _
  by_cases fb : faultM (zb, lb) = 0
  case neg =>
    have e : cpsA (za, la) (zb, lb) = ((0, []), faultM (zb, lb)) := by unfold cpsA; rw [if_neg (fun h => h fa), if_pos fb]
    rw [e]
    exact composed_bad2 za zb aa ab capa capb la lb w ha' hoka hb' hokb fa _ rfl fb
  by_cases hz : za < 0 ∨ zb < 0
  · have e : cpsA (za, la) (zb, lb) = ((-1, []), 0) := by unfold cpsA; rw [if_neg (fun h => h fa), if_neg (fun h => h fb), if_pos hz]
    rw [e]
    exact composed_none za zb aa ab capa capb la lb w ha' hoka hb' hokb fa fb hz
  · exact composed_ok za zb aa ab capa capb la lb w ha' hoka hb' hokb fa fb (by omega) (by omega)
end Go.Proofs.Ythcfkiinjcbajaa.Wt
