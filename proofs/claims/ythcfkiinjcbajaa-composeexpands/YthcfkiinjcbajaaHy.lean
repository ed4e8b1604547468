/- The statement's comparison of two lists of hops. -/
import Derived.Test.YthcfkiinjcbajaaHm
namespace Go.Proofs.Ythcfkiinjcbajaa.Wt
open Go.ChangeShapes Go.WideShapes Go.ChangeAt Go.RowKit
open Go.Proofs.Ythcfkiinjcbajaa.Pl
set_option linter.unusedVariables false
set_option linter.unusedSimpArgs false
set_option maxRecDepth 100000 in
theorem sameHops_any (v1 v2 : Value) (l : List Hp) (w : World) (h1 : Hps w v1 l) (h2 : Hps w v2 l) (hl : l.length ≤ 4398046511104) :
    Calls Try.prog 12 #[v1, v2] w fun e w' => e = .returned (.bool true) ∧ Below w.heap.size w w' := by
  obtain ⟨a, cap, rfl, hc⟩ := h1.get
  obtain ⟨a2, cap2, rfl, hc2⟩ := h2.get
  have HC := hidP hc
  have HC2 := hidP hc2
  clear h1 h2 hc hc2
  generalize l.length = n at *
  go_enter Try.func12, Try.ntmps12
  go_wp2
  go_loopw [5] (fun i wr => ∃ k q : Nat, k ≤ n ∧ i = .int .i64 k ∧ wr = w.drewN q) (fun i _ => n - (intOf i).toNat)
  case atStart => exact ⟨0, 0, Nat.zero_le _, by go_num, (World.drewN_zero w).symm⟩
  case round =>
    obtain ⟨k, q, hk, rfl, rfl⟩ := hrel
    by_cases hlt : k < n
    · obtain ⟨b, off, rfl, _, g0, g1, g2, g3, g4, g5⟩ := HC.out k hlt
      obtain ⟨b2, off2, rfl, _, r0, r1, r2, r3, r4, r5⟩ := HC2.out k hlt
      generalize el l k = p at *
      obtain ⟨p0, p1, p2, p3, p4, p5⟩ := p
      simp only at g0 g1 g2 g3 g4 g5 r0 r1 r2 r3 r4 r5
      have g0' : (w.drewN q).cell? ⟨b, off + k * 6, none⟩ = some (.int .i64 p0) := g0
      have g1' : (w.drewN q).cell? ⟨b, off + k * 6 + 1, none⟩ = some (.int .i64 p1) := g1
      have g2' : (w.drewN q).cell? ⟨b, off + k * 6 + 2, none⟩ = some (.int .i64 p2) := g2
      have g3' : (w.drewN q).cell? ⟨b, off + k * 6 + 3, none⟩ = some (.int .i64 p3) := g3
      have g4' : (w.drewN q).cell? ⟨b, off + k * 6 + 4, none⟩ = some (.int .i64 p4) := g4
      have g5' : (w.drewN q).cell? ⟨b, off + k * 6 + 5, none⟩ = some (.int .i64 p5) := g5
      have r0' : (w.drewN q).cell? ⟨b2, off2 + k * 6, none⟩ = some (.int .i64 p0) := r0
      have r1' : (w.drewN q).cell? ⟨b2, off2 + k * 6 + 1, none⟩ = some (.int .i64 p1) := r1
      have r2' : (w.drewN q).cell? ⟨b2, off2 + k * 6 + 2, none⟩ = some (.int .i64 p2) := r2
      have r3' : (w.drewN q).cell? ⟨b2, off2 + k * 6 + 3, none⟩ = some (.int .i64 p3) := r3
      have r4' : (w.drewN q).cell? ⟨b2, off2 + k * 6 + 4, none⟩ = some (.int .i64 p4) := r4
      have r5' : (w.drewN q).cell? ⟨b2, off2 + k * 6 + 5, none⟩ = some (.int .i64 p5) := r5
      have hk0 : (0 : Int) ≤ (k : Int) := by omega
      have hk1 : (k : Int) < (n : Int) := by omega
      go_wp2
      go_quiet (fail)
      go_wp2
      go_roundw
      case rel => exact ⟨k + 1, q + nq, by omega, by go_num, by first | rfl | rw [World.drewN_drewN]⟩
      case measure => simp [intOf]; omega
    · have hk1 : ¬ (k : Int) < (n : Int) := by omega
      go_wp2
      go_ret
      exact ⟨rfl, below_drewN (Below.refl _ _) _⟩
end Go.Proofs.Ythcfkiinjcbajaa.Wt
