/- The reference: what is wrong with a list of changes. -/
import Derived.Test.YtfffelgmgghldaaCg
namespace Go.Proofs.Ytfffelgmgghldaa.Wt
open Go.ChangeShapes Go.WideShapes Go.ChangeAt Go.RowKit
open Go.Proofs.Ytfffelgmgghldaa.Pl
set_option linter.unusedVariables false
set_option linter.unusedSimpArgs false
theorem changesFault_long (v : Value) (l : List Ch) (w : World) (h : Chs w v l) (hl : l.length ≤ 8796093022208) (h50 : 50 < l.length) :
    Calls Try.prog 36 #[v] w fun e w' => e = .returned (.int .i64 (fltC l)) ∧ Below w.heap.size w w' := by
  obtain ⟨a, cap, rfl⟩ := h.sl
  rw [flt_long h50]
  have h50' : (50 : Int) < (l.length : Int) := by omega
  clear h
  generalize l.length = n at *
  go_enter Try.func36, Try.ntmps36
  go_wp2
  go_ret
  exact ⟨rfl, Below.refl _ _⟩
set_option maxRecDepth 100000 in
set_option maxHeartbeats 1600000 in
theorem changesFault_short (v : Value) (l : List Ch) (w : World) (h : Chs w v l) (h50 : ¬ 50 < l.length) :
    Calls Try.prog 36 #[v] w fun e w' => e = .returned (.int .i64 (fltC l)) ∧ Below w.heap.size w w' := by
  obtain ⟨a, cap, rfl, hc⟩ := h.get
  have HC : Hid (∀ j, j < l.length → ∃ b off, a = some ⟨b, off, none⟩ ∧ b < w.heap.size ∧ w.cell? ⟨b, off + j * 2, none⟩ = some (.int .i64 (el l j).1) ∧ w.cell? ⟨b, off + j * 2 + 1, none⟩ = some (.int .i64 (el l j).2)) := hc
  have HR : Hid (∀ i, i < l.length → chB (el l i) = false → fltC l = 2) := fun i hi hb => flt_range h50 hi hb
  have HT : Hid ((∀ j, j < l.length → chB (el l j) = true) → ∀ i, i < l.length → ∀ j, j < i → (el l i).1 = (el l j).1 → fltC l = 10) := fun ha i hi j hj he => flt_twice h50 ha hi hj he
  have HZ : Hid ((∀ j, j < l.length → chB (el l j) = true) → (∀ i, i < l.length → ∀ j, j < i → (el l i).1 ≠ (el l j).1) → fltC l = 0) := fun ha ho => flt_none h50 ha ho
  have h50' : ¬ (50 : Int) < (l.length : Int) := by omega
  clear h hc
  generalize fltC l = r at *
  generalize l.length = n at *
  go_enter Try.func36, Try.ntmps36
  go_wp2
  go_loop [3] (fun i => ∃ k : Nat, k ≤ n ∧ i = .int .i64 k ∧ Hid (∀ j, j < k → chB (el l j) = true)) (fun i => n - (intOf i).toNat)
  case atStart => exact ⟨0, Nat.zero_le _, rfl, fun j hj => absurd hj (by omega)⟩
  case round =>
    obtain ⟨k, hk, rfl, hall⟩ := hrel
    by_cases hlt : k < n
    · have hlt' : (k : Int) < (n : Int) := by omega
      have hk0 : (0 : Int) ≤ (k : Int) := by omega
      obtain ⟨b, off, rfl, hb, g0, g1⟩ := HC.out k hlt
      have HRk := hidP (HR.out k hlt)
      have HS : Hid (chB (el l k) = true → ∀ j, j < k + 1 → chB (el l j) = true) := fun g j hj => by
        by_cases e : j = k
        · rw [e]; exact g
        · exact hall.out j (by omega)
      generalize el l k = p at *
      obtain ⟨p0, p1⟩ := p
      simp only at g0 g1
      have hcb : chB (p0, p1) = (inB p0 1 1000 && inB p1 0 1000) := rfl
      rw [hcb] at HRk HS
      clear hcb
      rcases bool_cases' (inB p0 1 1000) with e1 | e1
      · have E1 := hidP e1
        rcases bool_cases' (inB p1 0 1000) with e2 | e2
        · have E2 := hidP e2
          have HS' := hidP (HS.out (by rw [e1, e2]; rfl))
          clear HS HRk e1 e2
          go_wp2_with (first | (go_at_call 41; (with_reducible refine (refIn _ _ _ _ _ E1.out).mono ?_); rintro e w' ⟨rfl, rfl⟩) | (go_at_call 41; (with_reducible refine (refIn _ _ _ _ _ E2.out).mono ?_); rintro e w' ⟨rfl, rfl⟩))
          go_round
          case rel => exact ⟨k + 1, by omega, by go_num, HS'⟩
          case measure => simp [intOf]; omega
        · have E2 := hidP e2
          have hr : r = 2 := HRk.out (by rw [e1, e2]; rfl)
          clear HS HRk e1 e2
          subst hr
          go_wp2_with (first | (go_at_call 41; (with_reducible refine (refIn _ _ _ _ _ E1.out).mono ?_); rintro e w' ⟨rfl, rfl⟩) | (go_at_call 41; (with_reducible refine (refIn _ _ _ _ _ E2.out).mono ?_); rintro e w' ⟨rfl, rfl⟩))
          go_ret
          exact ⟨rfl, Below.refl _ _⟩
      · have E1 := hidP e1
        have hr : r = 2 := HRk.out (by rw [e1]; rfl)
        clear HS HRk e1
        subst hr
        go_wp2_with (first | (go_at_call 41; (with_reducible refine (refIn _ _ _ _ _ E1.out).mono ?_); rintro e w' ⟨rfl, rfl⟩))
        go_ret
        exact ⟨rfl, Below.refl _ _⟩
    · have hlt' : ¬ (k : Int) < (n : Int) := by omega
      obtain rfl : n = k := by omega
      replace HT := hidP (HT.out hall.out)
      replace HZ := hidP (HZ.out hall.out)
      clear HR hall hlt hk
      go_wp2
      go_loopw [4] (fun i wr => ∃ k q : Nat, k ≤ n ∧ i = .int .i64 k ∧ Hid (∀ i, i < k → ∀ j, j < i → (el l i).1 ≠ (el l j).1) ∧ wr = w.drewN q) (fun i _ => n - (intOf i).toNat)
      case atStart => exact ⟨0, 0, Nat.zero_le _, by go_num, fun j hj => absurd hj (by omega), (World.drewN_zero w).symm⟩
      case round =>
        obtain ⟨k, q, hk, rfl, hno, rfl⟩ := hrel
        by_cases hlt : k < n
        · have hltb : (k : Int) < (n : Int) := by omega
          have hk0 : (0 : Int) ≤ (k : Int) := by omega
          obtain ⟨b, off, rfl, hb, g0, g1⟩ := HC.out k hlt
          have HTk := hidP (HT.out k hlt)
          have HS : Hid ((∀ j, j < k → (el l k).1 ≠ (el l j).1) → ∀ i, i < k + 1 → ∀ j, j < i → (el l i).1 ≠ (el l j).1) := fun g i hi j hj => by
            by_cases e : i = k
            · subst e; exact g j hj
            · exact hno.out i (by omega) j hj
          clear hno g1
          generalize (el l k).1 = x at *
          go_wp2
          go_loopw [5] (fun i wr => ∃ j q : Nat, j ≤ k ∧ i = .int .i64 j ∧ Hid (∀ i, i < j → x ≠ (el l i).1) ∧ wr = w.drewN q) (fun i _ => k - (intOf i).toNat)
          case atStart => exact ⟨0, q, Nat.zero_le _, by go_num, fun j hj => absurd hj (by omega), rfl⟩
          case round =>
            obtain ⟨j, q2, hj, rfl, hnj, rfl⟩ := hrel
            by_cases hjk : j < k
            · have hjk' : (j : Int) < (k : Int) := by omega
              have hjn' : (j : Int) < (n : Int) := by omega
              have hj0 : (0 : Int) ≤ (j : Int) := by omega
              obtain ⟨b', off', hbb, _, r0, _⟩ := HC.out j (by omega)
              simp only [Option.some.injEq, Addr.mk.injEq, and_true] at hbb
              obtain ⟨rfl, rfl⟩ := hbb
              have HTj := hidP (HTk.out j hjk)
              have HSj : Hid (x ≠ (el l j).1 → ∀ i, i < j + 1 → x ≠ (el l i).1) := fun g i hi => by
                by_cases e : i = j
                · rw [e]; exact g
                · exact hnj.out i (by omega)
              generalize (el l j).1 = y at *
              have g0' : (w.drewN q2).cell? ⟨b, off + k * 2, none⟩ = some (.int .i64 x) := g0
              have r0' : (w.drewN q2).cell? ⟨b, off + j * 2, none⟩ = some (.int .i64 y) := r0
              by_cases hxy : x = y
              · have hxy' : (x == y) = true := by simpa using hxy
                have hr : r = 10 := HTj.out hxy
                clear hxy
                subst hr
                go_wp2
                go_quiet (fail)
                go_wp2
                go_ret
                exact ⟨rfl, below_drewN (below_drewN (Below.refl _ _) _) _⟩
              · have hxy' : (x == y) = false := by simpa using hxy
                have HSj' := hidP (HSj.out hxy)
                clear hxy
                go_wp2
                go_quiet (fail)
                go_wp2
                go_roundw
                case rel => exact ⟨j + 1, q2 + nq, by omega, by go_num, HSj', by first | rfl | rw [World.drewN_drewN]⟩
                case measure => simp [intOf]; omega
            · have hjk' : ¬ (j : Int) < (k : Int) := by omega
              obtain rfl : k = j := by omega
              have HS' := hidP (HS.out hnj.out)
              go_wp2
              go_roundw
              case rel => exact ⟨k + 1, q2, by omega, by go_num, HS', rfl⟩
              case measure => simp [intOf]; omega
        · have hltb : ¬ (k : Int) < (n : Int) := by omega
          obtain rfl : n = k := by omega
          have hr : r = 0 := HZ.out hno.out
          subst hr
          go_wp2
          go_ret
          exact ⟨rfl, below_drewN (Below.refl _ _) _⟩
theorem changesFault_any (v : Value) (l : List Ch) (w : World) (h : Chs w v l) (hl : l.length ≤ 8796093022208) :
    Calls Try.prog 36 #[v] w fun e w' => e = .returned (.int .i64 (fltC l)) ∧ Below w.heap.size w w' := by
  by_cases h50 : 50 < l.length
  · exact changesFault_long v l w h hl h50
  · exact changesFault_short v l w h h50
end Go.Proofs.Ytfffelgmgghldaa.Wt
