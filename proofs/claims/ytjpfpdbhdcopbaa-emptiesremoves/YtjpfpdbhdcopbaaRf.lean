/- The reference: what fits. -/
import Derived.Test.YtjpfpdbhdcopbaaRn
import Derived.Test.YtjpfpdbhdcopbaaMcR
namespace Go.Proofs.Ytjpfpdbhdcopbaa.Wt
open Go.ChangeShapes Go.WideShapes Go.ChangeAt Go.RowKit
open Go.Proofs.Ytjpfpdbhdcopbaa.Pl
set_option linter.unusedVariables false
set_option linter.unusedSimpArgs false
theorem res_fits (tm : Array Value) (W : World) (R : Nat) (z ec : Int) (vs : Value) (hB : Blk W R #[.int .i64 z, vs] 24) (h2 : tm.getD 2 undef = .pointer (some ⟨R, 0, none⟩)) (h3 : tm.getD 3 undef = .int .i64 ec) : (results Try.f26 tm).run Try.prog W = .ok (.tuple #[.agg #[.int .i64 z, vs], .int .i64 ec]) W := by
  have c0 := hB.cell 0 (v := .int .i64 z) rfl
  have c1 := hB.cell 1 (v := vs) rfl
  simp only [Array.getD_eq_getD_getElem?] at h2 h3
  simp [results, Try.results26, go_sem, h2, h3, c0, c1]
/-- What is handed back: the machine itself, or none. -/
def fitV (m : Mc) (v : Value) : Value := if sizeB m = true then v else .agg #[.int .i64 0, .slice none 0 0]
/-- P10.1. -/
theorem fits_any (v : Value) (m : Mc) (w : World) (h : Mach w v m) (hok : okM m) :
    Calls Try.prog 26 #[v] w fun e w' => e = .returned (.tuple #[fitV m v, .int .i64 (fitE m)]) ∧ Below w.heap.size w w' := by
  obtain ⟨z, l⟩ := m
  have HM : Hid (Mach w v (z, l)) := h
  have HK : Hid (okM (z, l)) := hok
  obtain ⟨vs, rfl, hS⟩ := h
  obtain ⟨a, cap, rfl⟩ := hS.sl
  clear hS hok
  obtain ⟨q, hq⟩ : ∃ q, arcN l = q := ⟨_, rfl⟩
  have HQ : Hid (arcN l = q) := hq
  by_cases h60 : l.length ≤ 60
  · have H60 : Hid (l.length ≤ 60) := h60
    have hn60 : ¬ (60 : Int) < (l.length : Int) := by omega
    by_cases h400 : q ≤ 400
    · have HS : Hid (sizeB (z, l) = true) := by show _ = _; simp [sizeB, h60, hq, h400]
      have hq4 : ¬ (400 : Int) < (q : Int) := by omega
      clear h60 h400 hq
      go_enter Try.func26, Try.ntmps26
      go_wp2_with (first
        | (go_at_call 53; (with_reducible refine (arcCount_any _ (z, l) _ (HM.out.later (B := w.heap.size) (by go_grown) (Nat.le_refl _)) HK.out H60.out q HQ.out).mono ?_); rintro e w1 ⟨rfl, hb⟩; obtain ⟨s1, b1, b2, hb1⟩ := boxedTwo hb (by simp); have c0 := b1.cell 0 (v := .int .i64 z) rfl; have c1 := b1.cell 1 (v := .slice a l.length cap) rfl; have KR : Hid (Blk w1 (w.heap.size + 1) #[.int .i64 0, .slice none 0 0] 24) := b2; have e0 := b2.cell 0 (v := .int .i64 0) rfl; have e1 := b2.cell 1 (v := .slice none 0 0) rfl; have g0 := b2.fz 0; have g1 := b2.fz 1; have HB1 : Hid (Below w.heap.size w w1) := hb1; clear b1 b2 hb1 hb))
      refine bodyPost_ret (res_fits _ _ (w.heap.size + 1) z 0 _ ((KR.out.set 0 _).set 1 _) rfl rfl) rfl ⟨by unfold fitE fitV; rw [if_pos HS.out, if_pos HS.out], (HB1.out.setCell (Nat.le_succ _) _).setCell (Nat.le_succ _) _⟩
    · have HS : Hid (¬ sizeB (z, l) = true) := by show ¬ _; simp [sizeB, hq]; omega
      have hq4 : (400 : Int) < (q : Int) := by omega
      clear h60 h400 hq
      go_enter Try.func26, Try.ntmps26
      go_wp2_with (first
        | (go_at_call 53; (with_reducible refine (arcCount_any _ (z, l) _ (HM.out.later (B := w.heap.size) (by go_grown) (Nat.le_refl _)) HK.out H60.out q HQ.out).mono ?_); rintro e w1 ⟨rfl, hb⟩; obtain ⟨s1, b1, b2, hb1⟩ := boxedTwo hb (by simp); have KR : Hid (Blk w1 (w.heap.size + 1) #[.int .i64 0, .slice none 0 0] 24) := b2; have e0 := b2.cell 0 (v := .int .i64 0) rfl; have e1 := b2.cell 1 (v := .slice none 0 0) rfl; have g0 := b2.fz 0; have g1 := b2.fz 1; have HB1 : Hid (Below w.heap.size w w1) := hb1; clear b1 b2 hb1 hb))
      refine bodyPost_ret (res_fits _ _ (w.heap.size + 1) 0 5 _ ((KR.out.set 0 _).set 1 _) rfl rfl) rfl ⟨by unfold fitE fitV; rw [if_neg HS.out, if_neg HS.out], (HB1.out.setCell (Nat.le_succ _) _).setCell (Nat.le_succ _) _⟩
  · have HS : Hid (¬ sizeB (z, l) = true) := by show ¬ _; simp [sizeB]; omega
    have hn60 : (60 : Int) < (l.length : Int) := by omega
    clear h60 hq
    have KR : Hid (∀ o, Blk ((w.alloc o).alloc (.cells #[.int .i64 0, .slice none 0 0] 24)) (w.heap.size + 1) #[.int .i64 0, .slice none 0 0] 24) := fun o => by
      have := Blk.made (w.alloc o) #[.int .i64 0, .slice none 0 0] 24
      rwa [World.size_alloc] at this
    go_enter Try.func26, Try.ntmps26
    go_wp2
    refine bodyPost_ret (res_fits _ _ (w.heap.size + 1) 0 5 _ (KR.out _) rfl rfl) rfl ⟨by unfold fitE fitV; rw [if_neg HS.out, if_neg HS.out], by go_grown⟩
end Go.Proofs.Ytjpfpdbhdcopbaa.Wt
