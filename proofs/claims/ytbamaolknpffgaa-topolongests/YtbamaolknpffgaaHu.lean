/- The program: container/heap's up and down, at a heap of numbers. -/
import Derived.Test.YtbamaolknpffgaaHq
namespace Go.Proofs.Ytbamaolknpffgaa.Wt
open Go.ChangeShapes Go.WideShapes Go.ChangeAt Go.RowKit
open Go.Proofs.Ytbamaolknpffgaa.Pl
set_option linter.unusedVariables false
set_option linter.unusedSimpArgs false
theorem belowDrewN (w : World) (q : Nat) : Below w.heap.size w (w.drewN q) := ⟨rfl, rfl, rfl, Nat.le_refl _, fun _ _ => rfl⟩
/-- Less and Swap at a heap in memory. -/
theorem hLess {B base g n cap : Nat} {hs : List Int} {w : World} (hown : w.ownsRow base 3 1 (.slice (some ⟨g, 0, none⟩) n cap) n (hs.flatMap encI1)) (hl : hs.length = n) (hn : n ≤ 1000) {i j : Nat} (hi : i < n) (hj : j < n) :
    Calls Try.prog 66 #[.slice (some ⟨g, 0, none⟩) n cap, .int .i64 (i : Int), .int .i64 (j : Int)] w fun e w' => e = .returned (.bool (decide (el hs i < el hs j))) ∧ ∃ q, w' = w.drewN q :=
  rLess_any g n cap w _ _ i j hi hj hn (own_num hown (by omega)) (own_num hown (by omega))
theorem hSwap {B base g n cap : Nat} {hs : List Int} {w : World} (hown : w.ownsRow base 3 1 (.slice (some ⟨g, 0, none⟩) n cap) n (hs.flatMap encI1)) (hB : Blk w B #[.slice (some ⟨g, 0, none⟩) n cap] 59) (hl : hs.length = n) (hn : n ≤ 1000) {i j : Nat} (hi : i < n) (hj : j < n) :
    Calls Try.prog 67 #[.slice (some ⟨g, 0, none⟩) n cap, .int .i64 (i : Int), .int .i64 (j : Int)] w fun e w' => e = .returned (.tuple #[]) ∧ w'.ownsRow base 3 1 (.slice (some ⟨g, 0, none⟩) n cap) n ((swpL hs i j).flatMap encI1) ∧ Blk w' B #[.slice (some ⟨g, 0, none⟩) n cap] 59 ∧ w.grownBy w' (some g) := by
  refine (rSwap_any g n cap w _ _ i j hi hj hn (own_num hown (by omega)) (own_num hown (by omega)) (own_fz hown i) (own_fz hown j)).mono ?_
  rintro e w' ⟨rfl, q, rfl⟩
  have hne : some B ≠ some g := own_ne hown hB (by decide)
  have h1 := own_set hown hi (el hs j)
  have h2 := own_set h1 hj (el hs i)
  have g1 := gTrans (gSet w g i (.int .i64 (el hs j))) (gSet (w.setCell ⟨g, i, none⟩ (.int .i64 (el hs j))) g j (.int .i64 (el hs i)))
  refine ⟨rfl, ⟨h2.1, h2.2⟩, ?_, ?_⟩
  · exact (hB.grown g1 hne).drewN q
  · exact ⟨g1.os, g1.tape, g1.output, g1.size, g1.block⟩
set_option maxRecDepth 100000 in
set_option maxHeartbeats 3200000 in
theorem up_any (B base g n cap : Nat) (hs : List Int) (j : Nat) (w : World) (hB : Blk w B #[.slice (some ⟨g, 0, none⟩) n cap] 59) (hown : w.ownsRow base 3 1 (.slice (some ⟨g, 0, none⟩) n cap) n (hs.flatMap encI1)) (hl : hs.length = n) (hn : n ≤ 1000) (hU : UpL hs j) (hj : j < n) :
    Calls Try.prog 45 #[.iface 61 (.pointer (some ⟨B, 0, none⟩)), .int .i64 (j : Int)] w fun e w' => e = .returned (.tuple #[]) ∧ ∃ hs', HeapL hs' n ∧ hs'.Perm hs ∧ w'.ownsRow base 3 1 (.slice (some ⟨g, 0, none⟩) n cap) n (hs'.flatMap encI1) ∧ Blk w' B #[.slice (some ⟨g, 0, none⟩) n cap] 59 ∧ w.grownBy w' (some g) := by
  have HB0 : Hid (Blk w B #[.slice (some ⟨g, 0, none⟩) n cap] 59) := hB
  have HO0 : Hid (w.ownsRow base 3 1 (.slice (some ⟨g, 0, none⟩) n cap) n (hs.flatMap encI1)) := hown
  have HU0 : Hid (UpL hs j ∧ hs.length = n ∧ hs.Perm hs) := ⟨hU, hl, List.Perm.refl _⟩
  clear hB hown hl hU
  have hnot : ∀ (x : Bool) (w : World), (Op.unary .not (.bool x)).run Try.prog w = .ok (.bool (!x)) w := fun _ _ => rfl
  go_enter Try.func45, Try.ntmps45
  go_wp2
  go_loopw [1] (fun s1 wr => ∃ (j : Nat) (hs' : List Int), s1 = .int .i64 (j : Int) ∧ j < n ∧ Hid (UpL hs' j ∧ hs'.length = n ∧ hs'.Perm hs) ∧ Hid (wr.ownsRow base 3 1 (.slice (some ⟨g, 0, none⟩) n cap) n (hs'.flatMap encI1)) ∧ Hid (Blk wr B #[.slice (some ⟨g, 0, none⟩) n cap] 59) ∧ Hid (w.grownBy wr (some g))) (fun s1 _ => (intOf s1).toNat)
  case atStart => exact ⟨j, hs, rfl, hj, HU0, HO0, HB0, gNew (Below.refl _ _)⟩
  case round =>
    obtain ⟨j, hs', rfl, hj, hU, hO, hB, hg⟩ := hrel
    clear HB0 HO0 HU0
    have HLN : Hid (hs'.length = n) := hU.out.2.1
    by_cases hj0 : j = 0
    · subst hj0
      have HH : Hid (HeapL hs' n) := by have h9 := hU.out.1.top; rw [HLN.out] at h9; exact h9
      go_wp2
      go_end0
      exact ⟨rfl, hs', HH.out, hU.out.2.2, hO.out, hB.out, hg.out⟩
    · obtain ⟨i, hi⟩ : ∃ i, (j - 1) / 2 = i := ⟨_, rfl⟩
      have hij : i < j := by omega
      have mL := meth_less (hB.out.cell 0 (v := .slice (some ⟨g, 0, none⟩) n cap) rfl)
      have mS : ∀ q, Sem.run Try.prog (method 196 61 (.pointer (some ⟨B, 0, none⟩)) "Swap") (wr.drewN q) = .ok (67, .slice (some ⟨g, 0, none⟩) n cap) (wr.drewN q) := fun q => meth_swap ((hB.out.drewN q).cell 0 (v := .slice (some ⟨g, 0, none⟩) n cap) rfl)
      have HL : Hid (Calls Try.prog 66 #[.slice (some ⟨g, 0, none⟩) n cap, .int .i64 (j : Int), .int .i64 (i : Int)] wr fun e w' => e = .returned (.bool (decide (el hs' j < el hs' i))) ∧ ∃ q, w' = wr.drewN q) := hLess (B := B) hO.out HLN.out hn (i := j) (j := i) hj (by omega)
      have HSW : Hid (∀ q, Calls Try.prog 67 #[.slice (some ⟨g, 0, none⟩) n cap, .int .i64 (i : Int), .int .i64 (j : Int)] (wr.drewN q) fun e w' => e = .returned (.tuple #[]) ∧ w'.ownsRow base 3 1 (.slice (some ⟨g, 0, none⟩) n cap) n ((swpL hs' i j).flatMap encI1) ∧ Blk w' B #[.slice (some ⟨g, 0, none⟩) n cap] 59 ∧ (wr.drewN q).grownBy w' (some g)) := fun q => hSwap (B := B) (w := wr.drewN q) ⟨hO.out.1, hO.out.2⟩ (hB.out.drewN q) HLN.out hn (i := i) (j := j) (by omega) hj
      have hd : IntKind.i64.wrap (((j : Int) - 1).tdiv 2) = (i : Int) := by
        rw [show (j : Int) - 1 = ((j - 1 : Nat) : Int) by omega, show (2 : Int) = ((2 : Nat) : Int) from rfl, ← Int.ofNat_tdiv, hi]
        exact wrapI (by omega) (by omega)
      have hne : ((i : Int) == (j : Int)) = false := by simp; omega
      by_cases hlt : el hs' j < el hs' i
      · rw [decide_eq_true hlt] at HL
        have HU2 : Hid (UpL (swpL hs' i j) i ∧ (swpL hs' i j).length = n ∧ (swpL hs' i j).Perm hs) := by
          have h9 := hU.out.1.swap (by omega) (by rw [HLN.out]; exact hj) (by rw [hi]; exact hlt)
          rw [hi] at h9
          exact ⟨h9, by rw [swp_length]; exact HLN.out, (swp_perm (by rw [HLN.out]; omega) (by rw [HLN.out]; exact hj)).trans hU.out.2.2⟩
        clear hlt hi
        go_wp2_with (first
          | (go_at_call 66; refine HL.out.mono ?_; rintro e w' ⟨rfl, q, rfl⟩)
          | (go_at_call 67; refine (HSW.out _).mono ?_; rintro e w' ⟨rfl, ho2, hb2, hg2⟩; have HO2 : Hid (w'.ownsRow base 3 1 (.slice (some ⟨g, 0, none⟩) n cap) n ((swpL hs' i j).flatMap encI1)) := ho2; have HB2 : Hid (Blk w' B #[.slice (some ⟨g, 0, none⟩) n cap] 59) := hb2; have HG2 : Hid (w.grownBy w' (some g)) := gTrans (gTrans hg.out (gNew (belowDrewN wr q))) hg2; clear ho2 hb2 hg2))
        go_roundw
        case rel => exact ⟨i, swpL hs' i j, rfl, by omega, HU2, HO2, HB2, HG2⟩
        case measure => simp [intOf]; omega
      · rw [decide_eq_false hlt] at HL
        have HH : Hid (HeapL hs' n) := by have h9 := hU.out.1.stop (by rw [hi]; exact hlt); rw [HLN.out] at h9; exact h9
        clear hlt hi
        go_wp2_with (first
          | (go_at_call 66; refine HL.out.mono ?_; rintro e w' ⟨rfl, q, rfl⟩))
        go_end0
        exact ⟨rfl, hs', HH.out, hU.out.2.2, ⟨hO.out.1, hO.out.2⟩, hB.out.drewN q, gTrans hg.out (gNew (belowDrewN wr q))⟩
end Go.Proofs.Ytbamaolknpffgaa.Wt
