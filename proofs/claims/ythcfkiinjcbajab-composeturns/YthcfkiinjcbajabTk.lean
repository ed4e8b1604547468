/- turn.Invert, turn.Reads, turn.Writes. -/
import Derived.Test.YthcfkiinjcbajabTn
namespace Go.Proofs.Ythcfkiinjcbajab.Wt
open Go.ChangeShapes Go.WideShapes Go.ChangeAt Go.RowKit
open Go.Proofs.Ythcfkiinjcbajab.Pl
set_option linter.unusedVariables false
set_option linter.unusedSimpArgs false
set_option maxRecDepth 100000 in
theorem turnedP_bad (v : Value) (m : Mc) (w : World) (h : Mach w v m) (hok : okM m) (g : Nat) (lb : Array Value) (r : Int) (hr : faultM m = r) (h0 : r ≠ 0) :
    Calls Try.prog 21 #[v, .func (.func g) #[] lb] w fun e w' => e = .returned (.tuple #[.agg #[.int .i64 0, .slice none 0 0], .int .i64 r]) ∧ Below w.heap.size w w' := by
  obtain ⟨z, l⟩ := m
  obtain ⟨vs, rfl, hS⟩ := h
  obtain ⟨a, cap, rfl⟩ := hS.sl
  have HM : Hid (Mach w (.agg #[.int .i64 z, .slice a l.length cap]) (z, l)) := ⟨_, rfl, hS⟩
  have HK : Hid (okM (z, l)) := hok
  have HR : Hid (faultM (z, l) = r) := hr
  clear hS hok hr
  simp only
  have hne : (r != 0) = true := by simpa using h0
  generalize l.length = n at *
  go_enter Try.func21, Try.ntmps21
  go_wp2_with (first
      | (go_at_call 30; (with_reducible refine (coreCheck_any _ (z, l) _ (HM.out.later (B := w.heap.size) (by go_grown) (Nat.le_refl _)) HK.out _ HR.out).mono ?_); rintro e w1 ⟨rfl, hb⟩; obtain ⟨s1, k0, k1, hb1⟩ := boxedTwo hb (by simp); have HB1 : Hid (Below w.heap.size w w1) := hb1; have e0 := k1.cell 0 (v := .int .i64 0) rfl; have e1 := k1.cell 1 (v := .slice none 0 0) rfl; have f0 := k1.fz 0; have f1 := k1.fz 1; clear hb hb1 k0 k1))
  exact bodyPost_ret (v := .tuple #[.agg #[.int .i64 0, .slice none 0 0], .int .i64 r]) (by simp [results, Try.results21, go_sem, *]) rfl ⟨rfl, by (have h := HB1.out); go_grown⟩
/-- What is answered where it is right, and where it is not. -/
def doR (r : Int) (f : Ar → Ar) (m : Mc) : Mc := if r = 0 then doM f m else (0, [])
theorem turnedP_any (v : Value) (m : Mc) (w : World) (h : Mach w v m) (hok : okM m) (g : Nat) (lb : Array Value) (f : Ar → Ar) (eg : ∀ ar W, (callFunc g ar).run Try.prog W = .ok (.enter g ar) W) (hp : DoA g lb f w) (r : Int) (hr : faultM m = r) :
    Calls Try.prog 21 #[v, .func (.func g) #[] lb] w fun e w' => ∃ v', e = .returned (.tuple #[v', .int .i64 r]) ∧ MachFrom w.heap.size w' v' (doR r f m) ∧ Below w.heap.size w w' := by
  by_cases h0 : r = 0
  · subst h0
    exact turnedP_ok v m w h hok g lb f eg hp hr
  · refine (turnedP_bad v m w h hok g lb r hr h0).mono ?_
    rintro e w' ⟨he, hb⟩
    refine ⟨_, he, ?_, hb⟩
    rw [doR, if_neg h0]
    exact fun w'' _ => mach_zeroR w''
theorem doR_tu (k : Int) (m : Mc) : doR (faultM m) (tuA k) m = turM k m := by
  unfold doR turM doM tuM
  rfl
set_option maxRecDepth 100000 in
theorem invert_do (w : World) : DoA 22 #[] (tuA 0) w := by
  intro W a _ _
  obtain ⟨a0, a1, a2, a3⟩ := a
  show Calls Try.prog 22 #[.agg #[.int .i64 a0, .int .i64 a1, .int .i64 a2, .int .i64 a3]] W fun e w' => e = .returned (.agg #[.int .i64 a1, .int .i64 a0, .int .i64 a2, .int .i64 a3]) ∧ Below W.heap.size W w'
  go_enter Try.func22, Try.ntmps22
  go_wp2
  exact bodyPost_ret (v := .agg #[.int .i64 a1, .int .i64 a0, .int .i64 a2, .int .i64 a3]) (by simp [results, Try.results22, go_sem, *]) rfl ⟨rfl, by go_grown⟩
set_option maxRecDepth 100000 in
theorem invertP_any (v : Value) (m : Mc) (w : World) (h : Mach w v m) (hok : okM m) :
    Calls Try.prog 11 #[v] w fun e w' => RatRes (turM 0 m) (faultM m) w e w' := by
  obtain ⟨z, l⟩ := m
  have HM : Hid (Mach w v (z, l)) := h
  have eg : ∀ args w, (callFunc 22 args).run Try.prog w = .ok (.enter 22 args) w := enters_of Try.func22 (by kernel_rfl) rfl
  obtain ⟨r, hr⟩ : ∃ r, faultM (z, l) = r := ⟨_, rfl⟩
  have HC : Hid (∀ W v, Mach W v (z, l) → Calls Try.prog 21 #[v, .func (.func 22) #[] #[]] W fun e w' => ∃ v', e = .returned (.tuple #[v', .int .i64 r]) ∧ MachFrom W.heap.size w' v' (turM 0 (z, l)) ∧ Below W.heap.size W w') := fun W v hW => by
    have h1 := turnedP_any v (z, l) W hW hok 22 #[] (tuA 0) eg (invert_do W) r hr
    rw [← hr, doR_tu] at h1
    rw [← hr]
    exact h1
  rw [hr]
  generalize turM 0 (z, l) = R at *
  obtain ⟨R0, R1⟩ := R
  obtain ⟨vs, rfl, hS⟩ := h
  obtain ⟨a, cap, rfl⟩ := hS.sl
  clear hS hok hr eg
  have HB0 : Hid (Below w.heap.size w ((w.alloc (.cells #[.int .i64 z, .slice a l.length cap] 28)).alloc (.cells #[.int .i64 0, .slice none 0 0] 28))) := ((Below.refl _ _).alloc (Nat.le_refl _) _).alloc (by simp) _
  simp only
  generalize l.length = n at *
  go_enter Try.func11, Try.ntmps11
  go_wp2_with (first
    | (go_at_call 21; (with_reducible refine (HC.out _ _ (HM.out.later HB0.out (Nat.le_refl _))).mono ?_); rintro e w1 ⟨v1, rfl, hm, hb⟩; obtain ⟨a1, c1, rfl⟩ := hm.sl; obtain ⟨s1, k0, k1, hb1⟩ := boxedTwo hb (by simp); have HM1 := hidP hm; have HB1 := hidP hb1; have K1 := hidP k1; have e0 := k1.cell 0 (v := .int .i64 0) rfl; have e1 := k1.cell 1 (v := .slice none 0 0) rfl; have f0 := k1.fz 0; have f1 := k1.fz 1; clear hb hb1 k0 k1 hm))
  exact bodyPost_ret (v := .tuple #[.agg #[.int .i64 R0, .slice a1 R1.length c1], .int .i64 r]) (by simp [results, Try.results11, go_sem, *]) rfl ⟨_, rfl, ((HM1.out.set (by show w.heap.size + 1 < _; simp) _).set (by show w.heap.size + 1 < _; simp) _).mach, (HB1.out.setCell (by show w.heap.size ≤ w.heap.size + 1; omega) _).setCell (by show w.heap.size ≤ w.heap.size + 1; omega) _⟩
end Go.Proofs.Ythcfkiinjcbajab.Wt
