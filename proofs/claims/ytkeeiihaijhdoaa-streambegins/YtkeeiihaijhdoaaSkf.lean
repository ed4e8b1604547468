/- The statement's comparison of two runs. -/
import Derived.Test.YtkeeiihaijhdoaaSke
namespace Go.Proofs.Ytkeeiihaijhdoaa.Sm
open Go.ChangeShapes Go.WideShapes Go.ChangeAt Go.RowKit
open Go.Proofs.Ytkeeiihaijhdoaa.Pl Go.Proofs.Ytkeeiihaijhdoaa.Wt
set_option linter.unusedVariables false
set_option linter.unusedSimpArgs false
set_option maxRecDepth 100000 in
set_option maxHeartbeats 1600000 in
theorem sameRun_any (v1 v2 : Value) (r : Ru) (w : World) (h1 : RunV w v1 r) (h2 : RunV w v2 r) (hok : okU r) :
    Calls Try.prog 12 #[v1, v2] w fun e w' => e = .returned (.bool true) ∧ Below w.heap.size w w' := by
  obtain ⟨z, l⟩ := r
  obtain ⟨vs, rfl, hM⟩ := h1
  obtain ⟨vs2, rfl, hM2⟩ := h2
  obtain ⟨hL, hO⟩ := hok
  simp only at hM hM2 hL hO ⊢
  obtain ⟨a, cap, rfl, hc⟩ := hM.get
  obtain ⟨a2, cap2, rfl, hc2⟩ := hM2.get
  have HC : Hid (∀ j, j < l.length → ∃ b off vo, a = some ⟨b, off, none⟩ ∧ b < w.heap.size ∧ w.cell? ⟨b, off + j * 3, none⟩ = some (.int .i64 (el l j).1) ∧ w.cell? ⟨b, off + j * 3 + 1, none⟩ = some (.int .i64 (el l j).2.1) ∧ w.cell? ⟨b, off + j * 3 + 2, none⟩ = some vo ∧ Nums w vo (el l j).2.2) := hc
  have HC2 : Hid (∀ j, j < l.length → ∃ b off vo, a2 = some ⟨b, off, none⟩ ∧ b < w.heap.size ∧ w.cell? ⟨b, off + j * 3, none⟩ = some (.int .i64 (el l j).1) ∧ w.cell? ⟨b, off + j * 3 + 1, none⟩ = some (.int .i64 (el l j).2.1) ∧ w.cell? ⟨b, off + j * 3 + 2, none⟩ = some vo ∧ Nums w vo (el l j).2.2) := hc2
  have HO := hidP hO
  clear hM hM2 hc hc2 hO
  generalize hn : l.length = n at *
  have hnot : ∀ (x : Bool) (w : World), (Op.unary .not (.bool x)).run Try.prog w = .ok (.bool (!x)) w := fun _ _ => rfl
  have HU : Hid (Below w.heap.size w ((w.alloc (.cells #[.int .i64 z, .slice a n cap] 28)).alloc (.cells #[.int .i64 z, .slice a2 n cap2] 28))) := by show Below _ _ _; go_grown
  go_enter Try.func12, Try.ntmps12
  go_wp2
  go_loopw [5] (fun i wr => ∃ k : Nat, k ≤ n ∧ i = .int .i64 k ∧ wr.cell? ⟨w.heap.size, 1, none⟩ = some (.slice a n cap) ∧ wr.cell? ⟨w.heap.size + 1, 1, none⟩ = some (.slice a2 n cap2) ∧ w.heap.size + 2 ≤ wr.heap.size ∧ Hid (Below w.heap.size w wr)) (fun i _ => n - (intOf i).toNat)
  case atStart => exact ⟨0, Nat.zero_le _, rfl, by go_cell, by go_cell, by simp, by show Below _ _ _; exact HU.out⟩
  case round =>
    obtain ⟨k, hk, rfl, c1, c2, hs, hb⟩ := hrel
    by_cases hlt : k < n
    · obtain ⟨b, off, vo, rfl, hbl, g0, g1, g2, hN⟩ := HC.out k hlt
      obtain ⟨b2, off2, vo2, rfl, hbl2, r0, r1, r2, hN2⟩ := HC2.out k hlt
      have g0 := (hb.out.cell (p := ⟨b, off + k * 3, none⟩) hbl).trans g0
      have g1 := (hb.out.cell (p := ⟨b, off + k * 3 + 1, none⟩) hbl).trans g1
      have g2 := (hb.out.cell (p := ⟨b, off + k * 3 + 2, none⟩) hbl).trans g2
      have r0 := (hb.out.cell (p := ⟨b2, off2 + k * 3, none⟩) hbl2).trans r0
      have r1 := (hb.out.cell (p := ⟨b2, off2 + k * 3 + 1, none⟩) hbl2).trans r1
      have r2 := (hb.out.cell (p := ⟨b2, off2 + k * 3 + 2, none⟩) hbl2).trans r2
      have HOk := hidP (HO.out k hlt)
      obtain ⟨ao, co, rfl⟩ := Row.sl hN
      obtain ⟨ao2, co2, rfl⟩ := Row.sl hN2
      have z0 : w.heap.size < wr.heap.size := by omega
      have z1 : w.heap.size + 1 < wr.heap.size := by omega
      have z2 : b < wr.heap.size := by omega
      have z3 : b2 < wr.heap.size := by omega
      have hk0 : (0 : Int) ≤ (k : Int) := by omega
      have hk1 : (k : Int) < (n : Int) := by omega
      have HN : Hid (Nums wr (.slice ao (el l k).2.2.length co) (el l k).2.2) := hN.later hb.out (Nat.le_refl _)
      have HN2 : Hid (Nums wr (.slice ao2 (el l k).2.2.length co2) (el l k).2.2) := hN2.later hb.out (Nat.le_refl _)
      clear hN hN2 hbl hbl2
      generalize el l k = p at *
      obtain ⟨p0, p1, p2⟩ := p
      simp only at g0 g1 g2 r0 r1 r2 HN HN2 HOk
      have HU2 : Hid (Below wr.heap.size wr ((wr.alloc (.cells #[.int .i64 p0, .int .i64 p1, .slice ao p2.length co] 67)).alloc (.cells #[.int .i64 p0, .int .i64 p1, .slice ao2 p2.length co2] 67))) := by show Below _ _ _; go_grown
      go_wp2_with (first
        | (go_at_call 18; (with_reducible refine (sameNums_any _ _ p2 _ (HN.out.later HU2.out (Nat.le_refl _)) (HN2.out.later HU2.out (Nat.le_refl _)) (by have h9 := HOk.out; omega)).mono ?_); rintro e w1 ⟨rfl, hb1⟩; have d1 := low (low c1 HU2.out) hb1; have d2 := low (low c2 HU2.out) hb1; have HB1 : Hid (Below wr.heap.size wr w1) := HU2.out.trans (hb1.mono HU2.out.size); clear hb1))
      go_roundw
      case rel => exact ⟨k + 1, by omega, by go_num, d1, d2, by have h9 := HB1.out.size; omega, hb.out.trans (HB1.out.mono hb.out.size)⟩
      case measure => simp [intOf]; omega
    · have hnl : ¬ (k : Int) < (n : Int) := by omega
      have hkn : k = n := by omega
      go_wp2
      go_ret
      exact ⟨rfl, hb.out⟩
end Go.Proofs.Ytkeeiihaijhdoaa.Sm
