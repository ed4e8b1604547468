/- The reference's comparison of two machines. -/
import Derived.Test.YtkeeiihaijhdoaaMc
import Derived.Laws.StructEq
namespace Go.Proofs.Ytkeeiihaijhdoaa.Wt
open Go.ChangeShapes Go.WideShapes Go.ChangeAt Go.RowKit
open Go.Proofs.Ytkeeiihaijhdoaa.Pl
set_option linter.unusedVariables false
set_option linter.unusedSimpArgs false
set_option maxHeartbeats 1000000 in
theorem sameArcs_any (v1 v2 : Value) (l : List Ar) (w : World) (h1 : Arcs w v1 l) (h2 : Arcs w v2 l) (hm : l.length ≤ maxLen) :
    Calls Try.prog 57 #[v1, v2] w fun e w' => e = .returned (.bool true) ∧ ∃ q, w' = w.drewN q := by
  unfold maxLen at hm
  by_cases hz : 0 < l.length
  · obtain ⟨b, off, cap, rfl, hbl, hc⟩ := h1.plain hz
    obtain ⟨b2, off2, cap2, rfl, hbl2, hc2⟩ := h2.plain hz
    clear h1 h2
    generalize hn : l.length = n at *
    go_enter Try.func57, Try.ntmps57
    go_wp2
    go_loopw [5] (fun i wr => ∃ k q : Nat, k ≤ n ∧ i = .int .i64 k ∧ wr = w.drewN q) (fun i _ => n - (intOf i).toNat)
    case atStart => exact ⟨0, 0, Nat.zero_le _, rfl, (World.drewN_zero w).symm⟩
    case round =>
      obtain ⟨k, q, hk, rfl, rfl⟩ := hrel
      by_cases hlt : k < n
      · obtain ⟨g0, g1, g2, g3⟩ := hc k hlt
        obtain ⟨r0, r1, r2, r3⟩ := hc2 k hlt
        clear hc hc2
        generalize el l k = p at *
        obtain ⟨p0, p1, p2, p3⟩ := p
        go_wp2
        go_quiet (fail)
        go_wp2
        go_roundw
        case rel => exact ⟨k + 1, q + nq, by omega, by go_num, by first | rfl | rw [World.drewN_drewN]⟩
        case measure => simp [intOf]; omega
      · go_wp2
        go_ret
        exact ⟨rfl, q, rfl⟩
  · obtain rfl : l = [] := List.eq_nil_of_length_eq_zero (by omega)
    obtain ⟨a, cap, rfl⟩ := h1.empty
    obtain ⟨a2, cap2, rfl⟩ := h2.empty
    go_enter Try.func57, Try.ntmps57
    go_wp2
    refine wp_loop_rounds 1 ?_; rw [rounds_succ]
    go_wp2
    go_ret
    exact ⟨rfl, 0, (World.drewN_zero w).symm⟩
theorem Arcs.drewN {w : World} {v : Value} {l : List Ar} (h : Arcs w v l) (q : Nat) : Arcs (w.drewN q) v l := h
set_option maxHeartbeats 1000000 in
set_option maxRecDepth 100000 in
theorem sameMachine_ref (v1 v2 : Value) (m : Mc) (w : World) (h1 : Mach w v1 m) (h2 : Mach w v2 m) (hok : okM m) :
    Calls Try.prog 34 #[v1, v2] w fun e w' => e = .returned (.bool true) ∧ Below w.heap.size w w' := by
  obtain ⟨z, l⟩ := m
  obtain ⟨vs, rfl, hS⟩ := h1
  obtain ⟨vs2, rfl, hS2⟩ := h2
  obtain ⟨a, cap, rfl, hc⟩ := hS.get
  obtain ⟨a2, cap2, rfl, hc2⟩ := hS2.get
  have HC : Hid (∀ j, j < l.length → ∃ b off va, a = some ⟨b, off, none⟩ ∧ b < w.heap.size ∧ w.cell? ⟨b, off + j * 2, none⟩ = some (.int .i64 (el l j).1) ∧ w.cell? ⟨b, off + j * 2 + 1, none⟩ = some va ∧ Arcs w va (el l j).2) := hc
  have HC2 : Hid (∀ j, j < l.length → ∃ b off va, a2 = some ⟨b, off, none⟩ ∧ b < w.heap.size ∧ w.cell? ⟨b, off + j * 2, none⟩ = some (.int .i64 (el l j).1) ∧ w.cell? ⟨b, off + j * 2 + 1, none⟩ = some va ∧ Arcs w va (el l j).2) := hc2
  have hl := hok.1
  have HL : Hid (∀ j, j < l.length → (el l j).2.length ≤ maxLen) := fun j hj => by have := hok.2 j hj; unfold maxLen; simp only at this; omega
  clear hS hS2 hc hc2 hok
  simp only at hl ⊢
  generalize hn : l.length = n at *
  have hnot : ∀ (x : Bool) (w : World), (Op.unary .not (.bool x)).run Try.prog w = .ok (.bool (!x)) w := fun _ _ => rfl
  go_enter Try.func34, Try.ntmps34
  go_wp2
  go_loopw [5] (fun i wr => ∃ k q : Nat, k ≤ n ∧ i = .int .i64 k ∧ wr = ((w.alloc (.cells #[.int .i64 z, .slice a n cap] 24)).alloc (.cells #[.int .i64 z, .slice a2 n cap2] 24)).drewN q) (fun i _ => n - (intOf i).toNat)
  case atStart => exact ⟨0, 0, Nat.zero_le _, rfl, (World.drewN_zero _).symm⟩
  case round =>
    obtain ⟨k, q, hk, rfl, hw⟩ := hrel
    have HW : Hid (wr = ((w.alloc (.cells #[.int .i64 z, .slice a n cap] 24)).alloc (.cells #[.int .i64 z, .slice a2 n cap2] 24)).drewN q) := hw
    have hb : Below w.heap.size w wr := by rw [hw]; exact below_drewN (by go_grown) q
    have c1 : wr.cell? ⟨w.heap.size, 1, none⟩ = some (.slice a n cap) := by rw [hw]; go_cell
    have c2 : wr.cell? ⟨w.heap.size + 1, 1, none⟩ = some (.slice a2 n cap2) := by rw [hw]; go_cell
    clear hw
    by_cases hlt : k < n
    · obtain ⟨b, off, va, rfl, hbl, g0, g1, gA⟩ := HC.out k hlt
      obtain ⟨b2, off2, va2, rfl, hbl2, r0, r1, rA⟩ := HC2.out k hlt
      have GA : Hid (Arcs wr va (el l k).2) := gA.later hb (Nat.le_refl _)
      have RA : Hid (Arcs wr va2 (el l k).2) := rA.later hb (Nat.le_refl _)
      have HLk : Hid ((el l k).2.length ≤ maxLen) := HL.out k hlt
      have g0 := (hb.cell (p := ⟨b, off + k * 2, none⟩) hbl).trans g0
      have g1 := (hb.cell (p := ⟨b, off + k * 2 + 1, none⟩) hbl).trans g1
      have r0 := (hb.cell (p := ⟨b2, off2 + k * 2, none⟩) hbl2).trans r0
      have r1 := (hb.cell (p := ⟨b2, off2 + k * 2 + 1, none⟩) hbl2).trans r1
      clear gA rA hb hbl hbl2
      generalize (el l k).1 = f at *
      go_wp2
      go_quiet (first | (go_at_call 57; refine Calls.quiet_of (sameArcs_any _ _ _ _ (GA.out.drewN _) (RA.out.drewN _) HLk.out)))
      go_wp2
      go_roundw
      case rel => exact ⟨k + 1, q + nq, by omega, by go_num, by rw [HW.out, World.drewN_drewN]⟩
      case measure => simp [intOf]; omega
    · go_wp2
      go_ret
      exact ⟨rfl, hb⟩
theorem sameMachine_any (v1 v2 : Value) (m : Mc) (w : World) (h1 : Mach w v1 m) (h2 : Mach w v2 m) (hok : okM m) :
    Calls Try.prog 13 #[v1, v2] w fun e w' => e = .returned (.bool true) ∧ Below w.heap.size w w' := by
  have H1 : Hid (Mach w v1 m) := h1
  have H2 : Hid (Mach w v2 m) := h2
  obtain ⟨z, l⟩ := m
  obtain ⟨vs, rfl, hS⟩ := h1
  obtain ⟨vs2, rfl, hS2⟩ := h2
  obtain ⟨a, cap, rfl⟩ := hS.sl
  obtain ⟨a2, cap2, rfl⟩ := hS2.sl
  clear hS hS2
  simp only at H1 H2 ⊢
  have HU : Hid (Below w.heap.size w ((w.alloc (.cells #[.int .i64 z, .slice a l.length cap] 24)).alloc (.cells #[.int .i64 z, .slice a2 l.length cap2] 24))) := by show Below _ _ _; go_grown
  go_enter Try.func13, Try.ntmps13
  go_wp2_with (first | (go_at_call 34; (with_reducible refine (sameMachine_ref _ _ (z, l) _ (H1.out.later HU.out (Nat.le_refl _)) (H2.out.later HU.out (Nat.le_refl _)) hok).mono ?_); rintro e w' ⟨rfl, hb⟩))
  go_ret
  exact ⟨rfl, HU.out.trans (hb.mono HU.out.size)⟩
end Go.Proofs.Ytkeeiihaijhdoaa.Wt
