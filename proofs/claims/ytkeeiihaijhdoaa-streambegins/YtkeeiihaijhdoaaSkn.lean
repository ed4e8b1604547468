/- A mark put to others, unless there is one of its state that is as good. -/
import Derived.Test.YtkeeiihaijhdoaaSkm
namespace Go.Proofs.Ytkeeiihaijhdoaa.Sm
open Go.ChangeShapes Go.WideShapes Go.ChangeAt Go.RowKit Go.Maps
open Go.Proofs.Ytkeeiihaijhdoaa.Pl Go.Proofs.Ytkeeiihaijhdoaa.Wt
set_option linter.unusedVariables false
set_option linter.unusedSimpArgs false
/-- A state more. -/
def addS (ks : List Int) (q : Int) : List Int := if q ∈ ks then ks else ks ++ [q]
theorem putT_none {T : Tbl} {q : Int} {k : Ky} (h : T q = none) : putT T q k = setT T q k := by
  funext p; unfold putT setT; rw [h]; rfl
theorem putT_bet {T : Tbl} {q : Int} {k b : Ky} (h : T q = some b) (hb : betB k b = true) : putT T q k = setT T q k := by
  funext p; unfold putT setT; rw [h]; simp [minO, hb]
theorem putT_not {T : Tbl} {q : Int} {k b : Ky} (h : T q = some b) (hb : betB k b = false) : putT T q k = T := by
  funext p; unfold putT; rw [h]
  by_cases e : p = q
  · subst e; simp [minO, hb, h]
  · rw [if_neg e]
set_option maxRecDepth 100000 in
set_option maxHeartbeats 1600000 in
theorem put_any (m : Nat) (v : Value) (k : Mk) (T : Tbl) (ks : List Int) (w : World) (hM : MpK w m T ks) (hv : MkIs w v k) (hq : wfI k.1) (hl : ks.length < 1000000) (hs : k.2.2.length ≤ 1000000) :
    Calls Try.prog 51 #[.map (some m), v] w fun e w' => e = .returned (.tuple #[]) ∧ MpK w' m (putT T k.1 k.2) (addS ks k.1) ∧ w.grownBy w' (some m) := by
  have HV := hidP hv
  have HM := hidP hM
  obtain ⟨q, x, l⟩ := k
  obtain ⟨vo, rfl, hn⟩ := hv
  simp only at hn hq hs ⊢
  obtain ⟨al, cl, rfl⟩ := Row.sl hn
  clear hn hM
  have hnot : ∀ (x : Bool) (w : World), (Op.unary .not (.bool x)).run Try.prog w = .ok (.bool (!x)) w := fun _ _ => rfl
  have HU : Hid (Below w.heap.size w (w.alloc (.cells #[.int .i64 q, .int .i64 x, .slice al l.length cl] 67))) := by show Below _ _ _; go_grown
  have HMU := hidP (HM.out.below HU.out)
  rcases hT : T q with _ | ⟨c, o⟩
  · have hlk := (HMU.out.lookS hq).2 hT
    have HU2 : Hid (Below w.heap.size w ((w.alloc (.cells #[.int .i64 q, .int .i64 x, .slice al l.length cl] 67)).alloc (.cells #[.int .i64 0, .int .i64 0, .slice none 0 0] 67))) := by show Below _ _ _; go_grown
    obtain ⟨w4, hup, hm4, hg4⟩ := (HM.out.below HU2.out).put hq (HV.out.later HU2.out (Nat.le_refl _)) hl
    have HM4 : Hid (MpK w4 m (putT T q (x, l)) (addS ks q)) := by show MpK _ _ _ _; rw [putT_none hT]; exact hm4
    have HG4 : Hid (w.grownBy w4 (some m)) := gTrans (gNew HU2.out) hg4
    clear hm4 hg4 hT
    go_enter Try.func51, Try.ntmps51
    go_wp2
    exact bodyPost_end (v := .tuple #[]) (by simp [results, Try.results51, go_sem, *]) rfl ⟨rfl, HM4.out, HG4.out⟩
  · obtain ⟨ao, co, hlk, hno⟩ := (HMU.out.lookS hq).1 _ hT
    simp only at hlk hno
    have HU2 : Hid (Below w.heap.size w ((w.alloc (.cells #[.int .i64 q, .int .i64 x, .slice al l.length cl] 67)).alloc (.cells #[.int .i64 q, .int .i64 c, .slice ao o.length co] 67))) := by show Below _ _ _; go_grown
    have HNO : Hid (Nums ((w.alloc (.cells #[.int .i64 q, .int .i64 x, .slice al l.length cl] 67)).alloc (.cells #[.int .i64 q, .int .i64 c, .slice ao o.length co] 67)) (.slice ao o.length co) o) := hno.later ((Below.refl _ _).alloc (Nat.le_refl _) _) (Nat.le_refl _)
    clear hno
    by_cases hb : betB (x, l) (c, o) = true
    · have HBT := hidP hb
      have HPT := hidP (putT_bet hT hb)
      clear hT hb
      go_enter Try.func51, Try.ntmps51
      go_wp2_with (first
        | (go_at_call 62; (with_reducible refine (isBetter_any _ _ (q, x, l) (q, c, o) _ (HV.out.later HU2.out (Nat.le_refl _)) (mkIs_of HNO.out) (by simp only; omega)).mono ?_); rintro e w3 ⟨rfl, hb3⟩; rw [HBT.out]; obtain ⟨s3, b1, b2, hb4⟩ := boxedTwo (hb3.mono (Nat.le_refl _)) (by simp); have e0 := b1.cell 0 (v := .int .i64 q) rfl; have e1 := b1.cell 1 (v := .int .i64 x) rfl; have e2 := b1.cell 2 (v := .slice al l.length cl) rfl; obtain ⟨w4, hup, hm4, hg4⟩ := (HM.out.below hb4).put hq (HV.out.later hb4 (Nat.le_refl _)) hl; have HM4 : Hid (MpK w4 m (putT T q (x, l)) (addS ks q)) := (by show MpK _ _ _ _; rw [HPT.out]; exact hm4); have HG4 : Hid (w.grownBy w4 (some m)) := gTrans (gNew hb4) hg4; clear hm4 hg4 b1 b2 hb4 hb3))
      exact bodyPost_end (v := .tuple #[]) (by simp [results, Try.results51, go_sem, *]) rfl ⟨rfl, HM4.out, HG4.out⟩
    · have HBT : Hid (betB (x, l) (c, o) = false) := by show _ = _; simpa using hb
      have HPT := hidP (putT_not hT HBT.out)
      have hqk : q ∈ ks := by
        obtain ⟨D, h1, h2, h3, h4, _⟩ := HM.out
        exact (h4 q).1 (by rw [hT]; simp)
      have HKS : Hid (addS ks q = ks) := if_pos hqk
      clear hT hb
      go_enter Try.func51, Try.ntmps51
      go_wp2_with (first
        | (go_at_call 62; (with_reducible refine (isBetter_any _ _ (q, x, l) (q, c, o) _ (HV.out.later HU2.out (Nat.le_refl _)) (mkIs_of HNO.out) (by simp only; omega)).mono ?_); rintro e w3 ⟨rfl, hb3⟩; rw [HBT.out]; have HB3 : Hid (Below w.heap.size w w3) := HU2.out.trans (hb3.mono HU2.out.size); clear hb3))
      exact bodyPost_end (v := .tuple #[]) (by simp [results, Try.results51, go_sem, *]) rfl ⟨rfl, by rw [HPT.out, HKS.out]; exact HM.out.below HB3.out, gNew HB3.out⟩
end Go.Proofs.Ytkeeiihaijhdoaa.Sm
