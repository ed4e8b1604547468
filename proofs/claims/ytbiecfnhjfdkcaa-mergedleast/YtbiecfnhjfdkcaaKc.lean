/- The keeping statements' own small functions: count, sameState, alike. -/
import Derived.Test.YtbiecfnhjfdkcaaMc
import Derived.Test.YtbiecfnhjfdkcaaRg
import Derived.Test.YtbiecfnhjfdkcaaBlk
import Derived.Test.YtbiecfnhjfdkcaaPlainY
import Derived.Laws.StructEq
namespace Go.Proofs.Ytbiecfnhjfdkcaa.Wt
open Go.ChangeShapes Go.WideShapes Go.ChangeAt Go.RowKit
open Go.Proofs.Ytbiecfnhjfdkcaa.Pl
set_option linter.unusedVariables false
set_option linter.unusedSimpArgs false
set_option maxRecDepth 100000 in
set_option maxHeartbeats 3200000 in
theorem keepCount_any (v : Value) (l : List Ar) (a : Ar) (w : World) (h : Arcs w v l) (hl : l.length ≤ 4398046511104) (r : Nat) (hr : cntA l a = r) :
    Calls Try.prog 20 #[v, .agg #[.int .i64 a.1, .int .i64 a.2.1, .int .i64 a.2.2.1, .int .i64 a.2.2.2]] w fun e w' => e = .returned (.int .i64 (r : Int)) ∧ Below w.heap.size w w' := by
  subst hr
  obtain ⟨sa, cap, rfl, hc⟩ := h.get
  have HC : Hid (∀ j, j < l.length → ∃ b off, sa = some ⟨b, off, none⟩ ∧ b < w.heap.size ∧ w.cell? ⟨b, off + j * 4, none⟩ = some (.int .i64 (el l j).1) ∧ w.cell? ⟨b, off + j * 4 + 1, none⟩ = some (.int .i64 (el l j).2.1) ∧ w.cell? ⟨b, off + j * 4 + 2, none⟩ = some (.int .i64 (el l j).2.2.1) ∧ w.cell? ⟨b, off + j * 4 + 3, none⟩ = some (.int .i64 (el l j).2.2.2)) := hc
  clear h hc
  generalize hn : l.length = n at *
  have HN : Hid (l.length = n) := hn
  clear hn
  obtain ⟨a0, a1, a2, a3⟩ := a
  go_enter Try.func20, Try.ntmps20
  go_wp2
  go_loopw [5, 6] (fun c i wr => ∃ (k q : Nat), k ≤ n ∧ c = .int .i64 (cntA (l.take k) (a0, a1, a2, a3) : Nat) ∧ i = .int .i64 k ∧ Hid (wr = (w.alloc (.cells #[.int .i64 a0, .int .i64 a1, .int .i64 a2, .int .i64 a3] 43)).drewN q)) (fun _ i _ => n - (intOf i).toNat)
  case atStart => exact ⟨0, 0, Nat.zero_le _, rfl, rfl, (World.drewN_zero _).symm⟩
  case round =>
    obtain ⟨k, q, hk, rfl, rfl, hw⟩ := hrel
    have hb : Below w.heap.size w wr := by rw [hw.out]; exact below_drewN (by go_grown) q
    by_cases hlt : k < n
    · obtain ⟨b, off, rfl, hbl, g0, g1, g2, g3⟩ := HC.out k hlt
      have g0 := (hb.cell (p := ⟨b, off + k * 4, none⟩) hbl).trans g0
      have g1 := (hb.cell (p := ⟨b, off + k * 4 + 1, none⟩) hbl).trans g1
      have g2 := (hb.cell (p := ⟨b, off + k * 4 + 2, none⟩) hbl).trans g2
      have g3 := (hb.cell (p := ⟨b, off + k * 4 + 3, none⟩) hbl).trans g3
      have x0 : wr.cell? ⟨w.heap.size, 0, none⟩ = some (.int .i64 a0) := by rw [hw.out]; go_cell
      have x1 : wr.cell? ⟨w.heap.size, 1, none⟩ = some (.int .i64 a1) := by rw [hw.out]; go_cell
      have x2 : wr.cell? ⟨w.heap.size, 2, none⟩ = some (.int .i64 a2) := by rw [hw.out]; go_cell
      have x3 : wr.cell? ⟨w.heap.size, 3, none⟩ = some (.int .i64 a3) := by rw [hw.out]; go_cell
      have HT := cntA_take (l := l) (k := k) (by rw [HN.out]; exact hlt) (a0, a1, a2, a3)
      have hcl : cntA (l.take k) (a0, a1, a2, a3) ≤ n := by have h1 := cntA_le (l.take k) (a0, a1, a2, a3); rw [List.length_take] at h1; omega
      have hk0 : (0 : Int) ≤ (k : Int) := by omega
      have hk1 : (k : Int) < (n : Int) := by omega
      generalize cntA (l.take k) (a0, a1, a2, a3) = c at *
      generalize el l k = p at *
      obtain ⟨p0, p1, p2, p3⟩ := p
      clear hb
      simp only at g0 g1 g2 g3
      by_cases e0 : p0 = a0
      · subst e0
        by_cases e1 : p1 = a1
        · subst e1
          by_cases e2 : p2 = a2
          · subst e2
            by_cases e3 : p3 = a3
            · subst e3
              have HE : Hid (cntA (l.take (k + 1)) (p0, p1, p2, p3) = c + 1) := by show _ = _; rw [HT, if_pos rfl]
              clear HT
              go_wp2
              go_quiet (fail)
              go_wp2
              go_roundw
              case rel => exact ⟨k + 1, q + nq, by omega, by rw [HE.out]; go_num, by go_num, by show _ = _; rw [hw.out, World.drewN_drewN]⟩
              case measure => simp [intOf]; omega
            · have n3 : (p3 == a3) = false := by simpa using e3
              have HE : Hid (cntA (l.take (k + 1)) (p0, p1, p2, a3) = c) := by show _ = _; rw [HT, if_neg (by simp [e3])]; rfl
              clear HT
              go_wp2
              go_quiet (fail)
              go_wp2
              go_roundw
              case rel => exact ⟨k + 1, q + nq, by omega, by rw [HE.out], by go_num, by show _ = _; rw [hw.out, World.drewN_drewN]⟩
              case measure => simp [intOf]; omega
          · have n2 : (p2 == a2) = false := by simpa using e2
            have HE : Hid (cntA (l.take (k + 1)) (p0, p1, a2, a3) = c) := by show _ = _; rw [HT, if_neg (by simp [e2])]; rfl
            clear HT
            go_wp2
            go_quiet (fail)
            go_wp2
            go_roundw
            case rel => exact ⟨k + 1, q + nq, by omega, by rw [HE.out], by go_num, by show _ = _; rw [hw.out, World.drewN_drewN]⟩
            case measure => simp [intOf]; omega
        · have n1 : (p1 == a1) = false := by simpa using e1
          have HE : Hid (cntA (l.take (k + 1)) (p0, a1, a2, a3) = c) := by show _ = _; rw [HT, if_neg (by simp [e1])]; rfl
          clear HT
          go_wp2
          go_quiet (fail)
          go_wp2
          go_roundw
          case rel => exact ⟨k + 1, q + nq, by omega, by rw [HE.out], by go_num, by show _ = _; rw [hw.out, World.drewN_drewN]⟩
          case measure => simp [intOf]; omega
      · have n0 : (p0 == a0) = false := by simpa using e0
        have HE : Hid (cntA (l.take (k + 1)) (a0, a1, a2, a3) = c) := by show _ = _; rw [HT, if_neg (by simp [e0])]; rfl
        clear HT
        go_wp2
        go_quiet (fail)
        go_wp2
        go_roundw
        case rel => exact ⟨k + 1, q + nq, by omega, by rw [HE.out], by go_num, by show _ = _; rw [hw.out, World.drewN_drewN]⟩
        case measure => simp [intOf]; omega
    · have hke : k = n := by omega
      have hnl : ¬ (k : Int) < (n : Int) := by omega
      have HE : Hid (cntA (l.take k) (a0, a1, a2, a3) = cntA l (a0, a1, a2, a3)) := by show _ = _; rw [hke, ← HN.out, List.take_length]
      clear hke
      go_wp2
      go_ret
      exact ⟨by rw [← HE.out]; rfl, hb⟩
end Go.Proofs.Ytbiecfnhjfdkcaa.Wt
