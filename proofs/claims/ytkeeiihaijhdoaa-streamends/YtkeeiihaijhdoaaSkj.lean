/- What End answers (the program's). -/
import Derived.Test.YtkeeiihaijhdoaaSkh
namespace Go.Proofs.Ytkeeiihaijhdoaa.Sm
open Go.ChangeShapes Go.WideShapes Go.ChangeAt Go.RowKit
open Go.Proofs.Ytkeeiihaijhdoaa.Pl Go.Proofs.Ytkeeiihaijhdoaa.Wt
set_option linter.unusedVariables false
set_option linter.unusedSimpArgs false
theorem endA_bad {m : Mc} {r : Ru} (h : chkA m r ≠ 0) : endA m r = ([], 0, chkA m r) := by
  unfold chkA at *
  unfold endA
  by_cases hf : faultM m ≠ 0
  · rw [if_pos hf] at h ⊢; rw [if_pos hf]
  · rw [if_neg hf] at h ⊢
    rw [if_neg hf]
    by_cases hr : runB m.2.length r = true
    · rw [if_pos hr] at h; exact absurd rfl h
    · rw [if_neg hr, if_pos (by simpa using hr)]
theorem chk_ok {m : Mc} {r : Ru} (h : chkA m r = 0) : faultM m = 0 ∧ runB m.2.length r = true := by
  unfold chkA at h
  by_cases hf : faultM m ≠ 0
  · rw [if_pos hf] at h; exact absurd h hf
  · rw [if_neg hf] at h
    by_cases hr : runB m.2.length r = true
    · exact ⟨by omega, hr⟩
    · rw [if_neg hr] at h; cases h
theorem endA_ok {m : Mc} {r : Ru} (h : chkA m r = 0) : endA m r = match endL (finS m) r.2 with
    | none => ([], 0, 12)
    | some k => if 1000000000 < k.1 then ([], 0, 4) else (k.2, k.1, 0) := by
  obtain ⟨h1, h2⟩ := chk_ok h
  unfold endA
  rw [if_neg (by omega), if_neg (by simp [h2])]
  cases endL (finS m) r.2 <;> rfl
/-- What was written, what it cost, an error. -/
def EndRes (a : List Int × Int × Int) (w : World) (e : Ending) (w' : World) : Prop := ∃ vo, e = .returned (.tuple #[vo, .int .i64 a.2.1, .int .i64 a.2.2]) ∧ Nums w' vo a.1 ∧ Below w.heap.size w w'
set_option maxRecDepth 100000 in
set_option maxHeartbeats 1600000 in
theorem endP_any (v vr : Value) (m : Mc) (r : Ru) (w : World) (h : Mach w v m) (hok : okM m) (hr : RunV w vr r) (hou : okU r) :
    Calls Try.prog 19 #[v, vr] w fun e w' => EndRes (endA m r) w e w' := by
  have HM := hidP h
  have HK := hidP hok
  have HR := hidP hr
  have HO := hidP hou
  obtain ⟨vs, rfl, hS⟩ := h
  obtain ⟨a, cap, rfl⟩ := hS.sl
  obtain ⟨vm, rfl, hMk⟩ := hr
  obtain ⟨am, cm, rfl⟩ := hMk.sl
  clear hS hok hou hMk
  have hnot : ∀ (x : Bool) (w : World), (Op.unary .not (.bool x)).run Try.prog w = .ok (.bool (!x)) w := fun _ _ => rfl
  have HU : Hid (Below w.heap.size w ((w.alloc (.cells #[.int .i64 m.1, .slice a m.2.length cap] 24)).alloc (.cells #[.int .i64 r.1, .slice am r.2.length cm] 28))) := by show Below _ _ _; go_grown
  by_cases hx : chkA m r = 0
  · have HX := hidP hx
    have HCO := hidP (chk_ok hx)
    have HE := hidP (endA_ok hx)
    clear hx
    generalize endA m r = E at *
    rcases hacc : endL (finS m) r.2 with _ | k
    · have HACC := hidP hacc
      have hE : E = ([], 0, 12) := by rw [HE.out, hacc]
      clear HE hacc
      subst hE
      go_enter Try.func19, Try.ntmps19
      go_wp2_with (first
        | (go_at_call 35; (with_reducible refine (check_any _ _ m r _ (HM.out.later HU.out (Nat.le_refl _)) HK.out (HR.out.later HU.out (Nat.le_refl _)) HO.out 0 HX.out).mono ?_); rintro e w1 ⟨rfl, hb⟩; obtain ⟨s1, b1, b2, hb1⟩ := boxedTwo hb (by simp); have HB1 : Hid (Below w.heap.size w w1) := hb1; have c0 := b1.cell 0 (v := .int .i64 m.1) rfl; have c1 := b1.cell 1 (v := .slice a m.2.length cap) rfl; have c2 := b2.cell 0 (v := .int .i64 r.1) rfl; have c3 := b2.cell 1 (v := .slice am r.2.length cm) rfl; clear hb hb1 b1 b2)
        | (go_at_call 43; (with_reducible refine (bestEnd_any _ _ m r _ (HM.out.later HB1.out (Nat.le_refl _)) HK.out (HR.out.later HB1.out (Nat.le_refl _)) HO.out HCO.out.1 HCO.out.2).mono ?_); rintro e w2 ⟨q, c, vo, o, rfl, hn, hag, hb⟩; rw [HACC.out]; have HB2 : Hid (Below w.heap.size w w2) := HB1.out.trans (hb.mono HB1.out.size); obtain ⟨ao, co, rfl⟩ := Row.sl hn; clear hn hag hb; rw [show (none : Option Ky).isSome = false from rfl]))
      exact bodyPost_ret (v := .tuple #[.slice none 0 0, .int .i64 0, .int .i64 12]) (by simp [results, Try.results19, go_sem, *]) rfl ⟨_, rfl, .inl ⟨rfl, rfl⟩, by have h9 := HB2.out; have h8 := HB2.out.size; go_grown⟩
    · have HACC := hidP hacc
      have hE : E = if 1000000000 < k.1 then ([], 0, 4) else (k.2, k.1, 0) := by rw [HE.out, hacc]
      clear HE hacc
      by_cases hk : 1000000000 < k.1
      · rw [if_pos hk] at hE
        subst hE
        go_enter Try.func19, Try.ntmps19
        go_wp2_with (first
          | (go_at_call 35; (with_reducible refine (check_any _ _ m r _ (HM.out.later HU.out (Nat.le_refl _)) HK.out (HR.out.later HU.out (Nat.le_refl _)) HO.out 0 HX.out).mono ?_); rintro e w1 ⟨rfl, hb⟩; obtain ⟨s1, b1, b2, hb1⟩ := boxedTwo hb (by simp); have HB1 : Hid (Below w.heap.size w w1) := hb1; have c0 := b1.cell 0 (v := .int .i64 m.1) rfl; have c1 := b1.cell 1 (v := .slice a m.2.length cap) rfl; have c2 := b2.cell 0 (v := .int .i64 r.1) rfl; have c3 := b2.cell 1 (v := .slice am r.2.length cm) rfl; clear hb hb1 b1 b2)
          | (go_at_call 43; (with_reducible refine (bestEnd_any _ _ m r _ (HM.out.later HB1.out (Nat.le_refl _)) HK.out (HR.out.later HB1.out (Nat.le_refl _)) HO.out HCO.out.1 HCO.out.2).mono ?_); rintro e w2 ⟨q, c, vo, o, rfl, hn, hag, hb⟩; rw [HACC.out]; obtain rfl := hag k HACC.out; have HB2 : Hid (Below w.heap.size w w2) := HB1.out.trans (hb.mono HB1.out.size); have hk' : 1000000000 < c := hk; obtain ⟨ao, co, rfl⟩ := Row.sl hn; clear hn hag hb hk; rw [show (some (c, o) : Option Ky).isSome = true from rfl]))
        exact bodyPost_ret (v := .tuple #[.slice none 0 0, .int .i64 0, .int .i64 4]) (by simp [results, Try.results19, go_sem, *]) rfl ⟨_, rfl, .inl ⟨rfl, rfl⟩, by have h9 := HB2.out; have h8 := HB2.out.size; go_grown⟩
      · rw [if_neg hk] at hE
        subst hE
        go_enter Try.func19, Try.ntmps19
        go_wp2_with (first
          | (go_at_call 35; (with_reducible refine (check_any _ _ m r _ (HM.out.later HU.out (Nat.le_refl _)) HK.out (HR.out.later HU.out (Nat.le_refl _)) HO.out 0 HX.out).mono ?_); rintro e w1 ⟨rfl, hb⟩; obtain ⟨s1, b1, b2, hb1⟩ := boxedTwo hb (by simp); have HB1 : Hid (Below w.heap.size w w1) := hb1; have c0 := b1.cell 0 (v := .int .i64 m.1) rfl; have c1 := b1.cell 1 (v := .slice a m.2.length cap) rfl; have c2 := b2.cell 0 (v := .int .i64 r.1) rfl; have c3 := b2.cell 1 (v := .slice am r.2.length cm) rfl; clear hb hb1 b1 b2)
          | (go_at_call 43; (with_reducible refine (bestEnd_any _ _ m r _ (HM.out.later HB1.out (Nat.le_refl _)) HK.out (HR.out.later HB1.out (Nat.le_refl _)) HO.out HCO.out.1 HCO.out.2).mono ?_); rintro e w2 ⟨q, c, vo, o, rfl, hn, hag, hb⟩; rw [HACC.out]; obtain rfl := hag k HACC.out; have HB2 : Hid (Below w.heap.size w w2) := HB1.out.trans (hb.mono HB1.out.size); have hk' : ¬ 1000000000 < c := (by simp only at hk; omega); obtain ⟨ao, co, rfl⟩ := Row.sl hn; have HN : Hid (Nums w2 (.slice ao o.length co) o) := hn; clear hn hag hb hk; rw [show (some (c, o) : Option Ky).isSome = true from rfl]))
        go_quiet (fail)
        go_wp2
        exact bodyPost_ret (v := .tuple #[.slice ao o.length co, .int .i64 c, .int .i64 0]) (by simp [results, Try.results19, go_sem, *]) rfl ⟨_, rfl, HN.out.later (B := w2.heap.size) (below_drewN (by go_grown) _) (Nat.le_refl _), below_drewN (by have h9 := HB2.out; have h8 := HB2.out.size; go_grown) _⟩
  · have HX : Hid (chkA m r = chkA m r) := rfl
    have hE := endA_bad hx
    rw [hE]
    have HX := HX.out
    generalize hq : chkA m r = x at *
    have HQ := hidP hq
    clear HX hq hE
    go_enter Try.func19, Try.ntmps19
    go_wp2_with (first
      | (go_at_call 35; (with_reducible refine (check_any _ _ m r _ (HM.out.later HU.out (Nat.le_refl _)) HK.out (HR.out.later HU.out (Nat.le_refl _)) HO.out x HQ.out).mono ?_); rintro e w1 ⟨rfl, hb⟩; obtain ⟨s1, b1, b2, hb1⟩ := boxedTwo hb (by simp); have HB1 : Hid (Below w.heap.size w w1) := hb1; clear hb hb1 b1 b2))
    exact bodyPost_ret (v := .tuple #[.slice none 0 0, .int .i64 0, .int .i64 x]) (by simp [results, Try.results19, go_sem, *]) rfl ⟨_, rfl, .inl ⟨rfl, rfl⟩, HB1.out⟩
end Go.Proofs.Ytkeeiihaijhdoaa.Sm
