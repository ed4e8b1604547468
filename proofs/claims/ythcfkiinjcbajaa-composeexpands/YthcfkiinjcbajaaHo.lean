/- The reference: a triple's Final and hops (Expanded), at every argument. -/
import Derived.Test.YthcfkiinjcbajaaHn
namespace Go.Proofs.Ythcfkiinjcbajaa.Wt
open Go.ChangeShapes Go.WideShapes Go.ChangeAt Go.RowKit
open Go.Proofs.Ythcfkiinjcbajaa.Pl
set_option linter.unusedVariables false
set_option linter.unusedSimpArgs false
section
variable (za zb t0 t1 t2 : Int) (aa ab : Option Addr) (capa capb : Nat) (la lb : List St) (w : World)
set_option maxRecDepth 100000 in
theorem expanded_bad1 (ha : Mach w (.agg #[.int .i64 za, .slice aa la.length capa]) (za, la)) (hoka : okM (za, la)) (r : Int) (fa : faultM (za, la) = r) (hr : ¬ r = 0) (vb : Value) (zb' : Int) :
    Calls Try.prog 11 #[.agg #[.int .i64 za, .slice aa la.length capa], .agg #[.int .i64 zb', vb], .agg #[.int .i64 t0, .int .i64 t1, .int .i64 t2]] w fun e w' => e = .returned (.tuple #[.int .i64 0, .slice none 0 0, .int .i64 r]) ∧ Below w.heap.size w w' := by
  have HMA := hidP ha
  have HKA := hidP hoka
  have HFA := hidP fa
  have hrb : (r == 0) = false := by simpa using hr
  have hrn : (r != 0) = true := by simpa using hr
  clear ha hoka fa
  generalize la.length = na at *
  go_enter Try.func11, Try.ntmps11
  go_wp2_with (first
    | (go_at_call 30; (with_reducible refine (fault_any _ (za, la) _ (HMA.out.later (B := w.heap.size) (by go_grown) (Nat.le_refl _)) HKA.out r HFA.out).mono ?_); rintro e w1 ⟨rfl, hb⟩; obtain ⟨s1, b1, b2, b3, hb1⟩ := boxedThree hb (by simp); have HB1 : Hid (Below w.heap.size w w1) := hb1; clear b1 b2 b3 hb1 hb))
  go_returns
  exact ⟨rfl, HB1.out⟩
set_option maxRecDepth 100000 in
theorem expanded_bad2 (ha : Mach w (.agg #[.int .i64 za, .slice aa la.length capa]) (za, la)) (hoka : okM (za, la)) (hb : Mach w (.agg #[.int .i64 zb, .slice ab lb.length capb]) (zb, lb)) (hokb : okM (zb, lb)) (fa : faultM (za, la) = 0) (r : Int) (fb : faultM (zb, lb) = r) (hr : ¬ r = 0) :
    Calls Try.prog 11 #[.agg #[.int .i64 za, .slice aa la.length capa], .agg #[.int .i64 zb, .slice ab lb.length capb], .agg #[.int .i64 t0, .int .i64 t1, .int .i64 t2]] w fun e w' => e = .returned (.tuple #[.int .i64 0, .slice none 0 0, .int .i64 r]) ∧ Below w.heap.size w w' := by
  have HMA := hidP ha
  have HMB := hidP hb
  have HKA := hidP hoka
  have HKB := hidP hokb
  have HFA := hidP fa
  have HFB := hidP fb
  have hrn : (r != 0) = true := by simpa using hr
  clear ha hb hoka hokb fa fb
  generalize la.length = na at *
  generalize lb.length = nb at *
  go_enter Try.func11, Try.ntmps11
  go_wp2_with (first
    | (go_at_call 30; (with_reducible refine (fault_any _ (za, la) _ (HMA.out.later (B := w.heap.size) (by go_grown) (Nat.le_refl _)) HKA.out 0 HFA.out).mono ?_); rintro e w1 ⟨rfl, hb⟩; obtain ⟨s1, b1, b2, b3, hb1⟩ := boxedThree hb (by simp); have HB1 : Hid (Below w.heap.size w w1) := hb1; have p0 := b2.cell 0 (v := .int .i64 zb) rfl; have p1 := b2.cell 1 (v := .slice ab nb capb) rfl; clear b1 b2 b3 hb1 hb)
    | (go_at_call 30; (with_reducible refine (fault_any _ (zb, lb) _ (HMB.out.later HB1.out (Nat.le_refl _)) HKB.out r HFB.out).mono ?_); rintro e w2 ⟨rfl, hb⟩; have HB2 := hidP (HB1.out.trans (hb.mono HB1.out.size)); clear hb))
  go_returns
  exact ⟨rfl, HB2.out⟩
set_option maxRecDepth 100000 in
set_option maxHeartbeats 1600000 in
theorem expanded_bad3 (ha : Mach w (.agg #[.int .i64 za, .slice aa la.length capa]) (za, la)) (hoka : okM (za, la)) (hb : Mach w (.agg #[.int .i64 zb, .slice ab lb.length capb]) (zb, lb)) (hokb : okM (zb, lb)) (fa : faultM (za, la) = 0) (fb : faultM (zb, lb) = 0) (i0 i1 i2 : Bool) (h0 : inB t0 0 ((la.length : Int) - 1) = i0) (h1 : inB t1 0 ((lb.length : Int) - 1) = i1) (h2 : inB t2 0 2 = i2) (hf : (i0 && i1 && i2) = false) :
    Calls Try.prog 11 #[.agg #[.int .i64 za, .slice aa la.length capa], .agg #[.int .i64 zb, .slice ab lb.length capb], .agg #[.int .i64 t0, .int .i64 t1, .int .i64 t2]] w fun e w' => e = .returned (.tuple #[.int .i64 0, .slice none 0 0, .int .i64 13]) ∧ Below w.heap.size w w' := by
  have HMA := hidP ha
  have HMB := hidP hb
  have HKA := hidP hoka
  have HKB := hidP hokb
  have HFA := hidP fa
  have HFB := hidP fb
  have IA := hidP h0
  have IB := hidP h1
  have IF := hidP h2
  have h60a := (right_size fa).1
  have h60b := (right_size fb).1
  clear ha hb hoka hokb fa fb h0 h1 h2
  generalize la.length = na at *
  generalize lb.length = nb at *
  have hnot : ∀ (x : Bool) (w : World), (Op.unary .not (.bool x)).run Try.prog w = .ok (.bool (!x)) w := fun _ _ => rfl
  have hc : i0 = false ∨ (i0 = true ∧ i1 = false) ∨ (i0 = true ∧ i1 = true ∧ i2 = false) := by revert hf; cases i0 <;> cases i1 <;> cases i2 <;> simp
  clear hf
  rcases hc with rfl | ⟨rfl, rfl⟩ | ⟨rfl, rfl, rfl⟩
  all_goals
    go_enter Try.func11, Try.ntmps11
    go_wp2_with (first
      | (go_at_call 30; (with_reducible refine (fault_any _ (za, la) _ (HMA.out.later (B := w.heap.size) (by go_grown) (Nat.le_refl _)) HKA.out 0 HFA.out).mono ?_); rintro e w1 ⟨rfl, hb⟩; obtain ⟨s1, b1, b2, b3, hb1⟩ := boxedThree hb (by simp); have HB1 : Hid (Below w.heap.size w w1) := hb1; have KA := hidP b1; have KB := hidP b2; have KT := hidP b3; have p0 := b2.cell 0 (v := .int .i64 zb) rfl; have p1 := b2.cell 1 (v := .slice ab nb capb) rfl; clear b1 b2 b3 hb1 hb)
      | (go_at_call 30; (with_reducible refine (fault_any _ (zb, lb) _ (HMB.out.later HB1.out (Nat.le_refl _)) HKB.out 0 HFB.out).mono ?_); rintro e w2 ⟨rfl, hb⟩; have HB2 := hidP (HB1.out.trans (hb.mono HB1.out.size)); have KA2 := hidP (KA.out.below hb KA.out.lt); have KB2 := hidP (KB.out.below hb KB.out.lt); have KT2 := hidP (KT.out.below hb KT.out.lt); have q0 := KA2.out.cell 1 (v := .slice aa na capa) rfl; have q1 := KB2.out.cell 1 (v := .slice ab nb capb) rfl; have q2 := KT2.out.cell 0 (v := .int .i64 t0) rfl; have q3 := KT2.out.cell 1 (v := .int .i64 t1) rfl; have q4 := KT2.out.cell 2 (v := .int .i64 t2) rfl; clear hb)
      | (go_at_call 31; (with_reducible refine (refIn _ _ _ _ _ IA.out).mono ?_); rintro e w' ⟨rfl, rfl⟩)
      | (go_at_call 31; (with_reducible refine (refIn _ _ _ _ _ IB.out).mono ?_); rintro e w' ⟨rfl, rfl⟩)
      | (go_at_call 31; (with_reducible refine (refIn _ _ _ _ _ IF.out).mono ?_); rintro e w' ⟨rfl, rfl⟩))
    go_returns
    exact ⟨rfl, HB2.out⟩
end
end Go.Proofs.Ythcfkiinjcbajaa.Wt
