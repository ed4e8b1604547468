/- The program: container/heap's down, at a heap of numbers. -/
import Derived.Test.YtbamaolknpffgaaHu
namespace Go.Proofs.Ytbamaolknpffgaa.Wt
open Go.ChangeShapes Go.WideShapes Go.ChangeAt Go.RowKit
open Go.Proofs.Ytbamaolknpffgaa.Pl
set_option linter.unusedVariables false
set_option linter.unusedSimpArgs false
theorem drewN_two (w : World) (a b : Nat) : (w.drewN a).drewN b = w.drewN (a + b) := by
  show ({ w with drawn := w.drawn + a + b } : World) = { w with drawn := w.drawn + (a + b) }
  rw [Nat.add_assoc]
theorem hLessD {B base g n cap : Nat} {hs : List Int} {w : World} (q : Nat) (hown : w.ownsRow base 3 1 (.slice (some ⟨g, 0, none⟩) n cap) n (hs.flatMap encI1)) (hl : hs.length = n) (hn : n ≤ 1000) {i j : Nat} (hi : i < n) (hj : j < n) :
    Calls Try.prog 66 #[.slice (some ⟨g, 0, none⟩) n cap, .int .i64 (i : Int), .int .i64 (j : Int)] (w.drewN q) fun e w' => e = .returned (.bool (decide (el hs i < el hs j))) ∧ ∃ q2, w' = w.drewN q2 :=
  (hLess (B := B) (w := w.drewN q) ⟨hown.1, hown.2⟩ hl hn hi hj).mono fun _ _ h => ⟨h.1, by obtain ⟨q2, h2⟩ := h.2; exact ⟨q + q2, h2.trans (drewN_two w q q2)⟩⟩
set_option maxRecDepth 100000 in
set_option maxHeartbeats 6400000 in
theorem down_any (B base g m cap n : Nat) (hs : List Int) (w : World) (hB : Blk w B #[.slice (some ⟨g, 0, none⟩) m cap] 59) (hown : w.ownsRow base 3 1 (.slice (some ⟨g, 0, none⟩) m cap) m (hs.flatMap encI1)) (hl : hs.length = m) (hnm : n < m) (hm : m ≤ 1000) (hD : DownL hs 0 n) :
    Calls Try.prog 46 #[.iface 61 (.pointer (some ⟨B, 0, none⟩)), .int .i64 0, .int .i64 (n : Int)] w fun e w' => (∃ b, e = .returned (.bool b)) ∧ ∃ hs', HeapL hs' n ∧ hs'.Perm hs ∧ hs'.drop n = hs.drop n ∧ w'.ownsRow base 3 1 (.slice (some ⟨g, 0, none⟩) m cap) m (hs'.flatMap encI1) ∧ Blk w' B #[.slice (some ⟨g, 0, none⟩) m cap] 59 ∧ w.grownBy w' (some g) := by
  have HB0 : Hid (Blk w B #[.slice (some ⟨g, 0, none⟩) m cap] 59) := hB
  have HO0 : Hid (w.ownsRow base 3 1 (.slice (some ⟨g, 0, none⟩) m cap) m (hs.flatMap encI1)) := hown
  have HD0 : Hid (DownL hs 0 n ∧ hs.length = m ∧ hs.Perm hs ∧ hs.drop n = hs.drop n) := ⟨hD, hl, List.Perm.refl _, rfl⟩
  clear hB hown hl hD
  have hnot : ∀ (x : Bool) (w : World), (Op.unary .not (.bool x)).run Try.prog w = .ok (.bool (!x)) w := fun _ _ => rfl
  go_enter Try.func46, Try.ntmps46
  go_wp2
  go_loopw [7] (fun s7 wr => ∃ (i : Nat) (hs' : List Int), s7 = .int .i64 (i : Int) ∧ i < m ∧ Hid (DownL hs' i n ∧ hs'.length = m ∧ hs'.Perm hs ∧ hs'.drop n = hs.drop n) ∧ Hid (wr.ownsRow base 3 1 (.slice (some ⟨g, 0, none⟩) m cap) m (hs'.flatMap encI1)) ∧ Hid (Blk wr B #[.slice (some ⟨g, 0, none⟩) m cap] 59) ∧ Hid (w.grownBy wr (some g))) (fun s7 _ => m - (intOf s7).toNat)
  case atStart => exact ⟨0, hs, rfl, by omega, ⟨HD0.out.1, HD0.out.2.1, List.Perm.refl _, rfl⟩, HO0, HB0, gNew (Below.refl _ _)⟩
  case round =>
    obtain ⟨i, hs', rfl, him, hD, hO, hB, hg⟩ := hrel
    clear HB0 HO0 HD0
    have HLN : Hid (hs'.length = m) := hD.out.2.1
    have hneg : decide (2 * (i : Int) + 1 < 0) = false := decide_eq_false (by omega)
    by_cases h1 : n ≤ 2 * i + 1
    · have h1z : (n : Int) ≤ 2 * (i : Int) + 1 := by omega
      have HH : Hid (HeapL hs' n) := hD.out.1.leaf h1
      go_wp2
      go_ret
      exact ⟨⟨_, rfl⟩, hs', HH.out, hD.out.2.2.1, hD.out.2.2.2, hO.out, hB.out, hg.out⟩
    · have h1z : ¬ (n : Int) ≤ 2 * (i : Int) + 1 := by omega
      have h1d : decide ((n : Int) ≤ 2 * (i : Int) + 1) = false := decide_eq_false h1z
      have mL0 := meth_less (hB.out.cell 0 (v := .slice (some ⟨g, 0, none⟩) m cap) rfl)
      have mL : ∀ q, Sem.run Try.prog (method 196 61 (.pointer (some ⟨B, 0, none⟩)) "Less") (wr.drewN q) = .ok (66, .slice (some ⟨g, 0, none⟩) m cap) (wr.drewN q) := fun q => meth_less ((hB.out.drewN q).cell 0 (v := .slice (some ⟨g, 0, none⟩) m cap) rfl)
      have mS : ∀ q, Sem.run Try.prog (method 196 61 (.pointer (some ⟨B, 0, none⟩)) "Swap") (wr.drewN q) = .ok (67, .slice (some ⟨g, 0, none⟩) m cap) (wr.drewN q) := fun q => meth_swap ((hB.out.drewN q).cell 0 (v := .slice (some ⟨g, 0, none⟩) m cap) rfl)
      by_cases h2 : 2 * i + 1 + 1 < n
      · have h2z : 2 * (i : Int) + 1 + 1 < (n : Int) := by omega
        have h2d : decide (2 * (i : Int) + 1 + 1 < (n : Int)) = true := decide_eq_true h2z
        by_cases hr : el hs' (2 * i + 1 + 1) < el hs' (2 * i + 1)
        · skip
          have hcm : 2 * i + 1 + 1 < m := by omega
          have ec : ((2 * i + 1 + 1 : Nat) : Int) = 2 * (i : Int) + 1 + 1 := by omega
          have LC : Hid (LowC hs' i n (2 * i + 1 + 1)) := LowC.right h2 hr
          have HL2 : Hid (∀ q, Calls Try.prog 66 #[.slice (some ⟨g, 0, none⟩) m cap, .int .i64 (2 * (i : Int) + 1 + 1), .int .i64 (i : Int)] (wr.drewN q) fun e w' => e = .returned (.bool (decide (el hs' (2 * i + 1 + 1) < el hs' i))) ∧ ∃ q2, w' = wr.drewN q2) := by have h9 := fun q => hLessD (B := B) q hO.out HLN.out hm (i := 2 * i + 1 + 1) (j := i) hcm him; rw [ec] at h9; exact h9
          have HL1 : Hid (Calls Try.prog 66 #[.slice (some ⟨g, 0, none⟩) m cap, .int .i64 (2 * (i : Int) + 1 + 1), .int .i64 (2 * (i : Int) + 1)] wr fun e w' => e = .returned (.bool true) ∧ ∃ q2, w' = wr.drewN q2) := by have h9 := hLessD (B := B) 0 hO.out HLN.out hm (i := 2 * i + 1 + 1) (j := 2 * i + 1) (by omega) (by omega); rw [show ((2 * i + 1 + 1 : Nat) : Int) = 2 * (i : Int) + 1 + 1 by omega, show ((2 * i + 1 : Nat) : Int) = 2 * (i : Int) + 1 by omega] at h9; rw [decide_eq_true hr] at h9; exact h9
          have HSW : Hid (∀ q, Calls Try.prog 67 #[.slice (some ⟨g, 0, none⟩) m cap, .int .i64 (i : Int), .int .i64 (2 * (i : Int) + 1 + 1)] (wr.drewN q) fun e w' => e = .returned (.tuple #[]) ∧ w'.ownsRow base 3 1 (.slice (some ⟨g, 0, none⟩) m cap) m ((swpL hs' i (2 * i + 1 + 1)).flatMap encI1) ∧ Blk w' B #[.slice (some ⟨g, 0, none⟩) m cap] 59 ∧ (wr.drewN q).grownBy w' (some g)) := by have h9 := fun q => hSwap (B := B) (w := wr.drewN q) ⟨hO.out.1, hO.out.2⟩ (hB.out.drewN q) HLN.out hm (i := i) (j := 2 * i + 1 + 1) him hcm; rw [ec] at h9; exact h9
          by_cases hlt : el hs' (2 * i + 1 + 1) < el hs' i
          · rw [decide_eq_true hlt] at HL2
            have HD2 : Hid (DownL (swpL hs' i (2 * i + 1 + 1)) (2 * i + 1 + 1) n ∧ (swpL hs' i (2 * i + 1 + 1)).length = m ∧ (swpL hs' i (2 * i + 1 + 1)).Perm hs ∧ (swpL hs' i (2 * i + 1 + 1)).drop n = hs.drop n) := ⟨hD.out.1.swap (by rw [HLN.out]; omega) LC.out hlt, by rw [swp_length]; exact HLN.out, (swp_perm (by rw [HLN.out]; exact him) (by rw [HLN.out]; exact hcm)).trans hD.out.2.2.1, (swp_drop (by omega) (by omega)).trans hD.out.2.2.2⟩
            clear hlt LC hD hr
            go_wp2_with (first
              | (go_at_call 66; (with_reducible refine HL1.out.mono ?_); rintro e w' ⟨rfl, q1, rfl⟩)
              | (go_at_call 66; (with_reducible refine (HL2.out _).mono ?_); rintro e w' ⟨rfl, q, rfl⟩)
              | (go_at_call 67; refine (HSW.out _).mono ?_; rintro e w' ⟨rfl, ho2, hb2, hg2⟩; have HO2 : Hid (w'.ownsRow base 3 1 (.slice (some ⟨g, 0, none⟩) m cap) m ((swpL hs' i (2 * i + 1 + 1)).flatMap encI1)) := ho2; have HB2 : Hid (Blk w' B #[.slice (some ⟨g, 0, none⟩) m cap] 59) := hb2; have HG2 : Hid (w.grownBy w' (some g)) := gTrans (gTrans hg.out (gNew (belowDrewN wr q))) hg2; clear ho2 hb2 hg2))
            go_roundw
            case rel => exact ⟨2 * i + 1 + 1, swpL hs' i (2 * i + 1 + 1), by rw [ec], hcm, HD2, HO2, HB2, HG2⟩
            case measure => simp [intOf]; omega
          · rw [decide_eq_false hlt] at HL2
            have HH : Hid (HeapL hs' n) := hD.out.1.stop LC.out hlt
            clear hlt LC hr
            go_wp2_with (first
              | (go_at_call 66; (with_reducible refine HL1.out.mono ?_); rintro e w' ⟨rfl, q1, rfl⟩)
              | (go_at_call 66; (with_reducible refine (HL2.out _).mono ?_); rintro e w' ⟨rfl, q, rfl⟩))
            go_ret
            exact ⟨⟨_, rfl⟩, hs', HH.out, hD.out.2.2.1, hD.out.2.2.2, ⟨hO.out.1, hO.out.2⟩, hB.out.drewN q, gTrans hg.out (gNew (belowDrewN wr q))⟩
        · skip
          have hcm : 2 * i + 1 < m := by omega
          have ec : ((2 * i + 1 : Nat) : Int) = 2 * (i : Int) + 1 := by omega
          have LC : Hid (LowC hs' i n (2 * i + 1)) := LowC.left (by omega) (fun _ => hr)
          have HL2 : Hid (∀ q, Calls Try.prog 66 #[.slice (some ⟨g, 0, none⟩) m cap, .int .i64 (2 * (i : Int) + 1), .int .i64 (i : Int)] (wr.drewN q) fun e w' => e = .returned (.bool (decide (el hs' (2 * i + 1) < el hs' i))) ∧ ∃ q2, w' = wr.drewN q2) := by have h9 := fun q => hLessD (B := B) q hO.out HLN.out hm (i := 2 * i + 1) (j := i) hcm him; rw [ec] at h9; exact h9
          have HL1 : Hid (Calls Try.prog 66 #[.slice (some ⟨g, 0, none⟩) m cap, .int .i64 (2 * (i : Int) + 1 + 1), .int .i64 (2 * (i : Int) + 1)] wr fun e w' => e = .returned (.bool false) ∧ ∃ q2, w' = wr.drewN q2) := by have h9 := hLessD (B := B) 0 hO.out HLN.out hm (i := 2 * i + 1 + 1) (j := 2 * i + 1) (by omega) (by omega); rw [show ((2 * i + 1 + 1 : Nat) : Int) = 2 * (i : Int) + 1 + 1 by omega, show ((2 * i + 1 : Nat) : Int) = 2 * (i : Int) + 1 by omega] at h9; rw [decide_eq_false hr] at h9; exact h9
          have HSW : Hid (∀ q, Calls Try.prog 67 #[.slice (some ⟨g, 0, none⟩) m cap, .int .i64 (i : Int), .int .i64 (2 * (i : Int) + 1)] (wr.drewN q) fun e w' => e = .returned (.tuple #[]) ∧ w'.ownsRow base 3 1 (.slice (some ⟨g, 0, none⟩) m cap) m ((swpL hs' i (2 * i + 1)).flatMap encI1) ∧ Blk w' B #[.slice (some ⟨g, 0, none⟩) m cap] 59 ∧ (wr.drewN q).grownBy w' (some g)) := by have h9 := fun q => hSwap (B := B) (w := wr.drewN q) ⟨hO.out.1, hO.out.2⟩ (hB.out.drewN q) HLN.out hm (i := i) (j := 2 * i + 1) him hcm; rw [ec] at h9; exact h9
          by_cases hlt : el hs' (2 * i + 1) < el hs' i
          · rw [decide_eq_true hlt] at HL2
            have HD2 : Hid (DownL (swpL hs' i (2 * i + 1)) (2 * i + 1) n ∧ (swpL hs' i (2 * i + 1)).length = m ∧ (swpL hs' i (2 * i + 1)).Perm hs ∧ (swpL hs' i (2 * i + 1)).drop n = hs.drop n) := ⟨hD.out.1.swap (by rw [HLN.out]; omega) LC.out hlt, by rw [swp_length]; exact HLN.out, (swp_perm (by rw [HLN.out]; exact him) (by rw [HLN.out]; exact hcm)).trans hD.out.2.2.1, (swp_drop (by omega) (by omega)).trans hD.out.2.2.2⟩
            clear hlt LC hD hr
            go_wp2_with (first
              | (go_at_call 66; (with_reducible refine HL1.out.mono ?_); rintro e w' ⟨rfl, q1, rfl⟩)
              | (go_at_call 66; (with_reducible refine (HL2.out _).mono ?_); rintro e w' ⟨rfl, q, rfl⟩)
              | (go_at_call 67; refine (HSW.out _).mono ?_; rintro e w' ⟨rfl, ho2, hb2, hg2⟩; have HO2 : Hid (w'.ownsRow base 3 1 (.slice (some ⟨g, 0, none⟩) m cap) m ((swpL hs' i (2 * i + 1)).flatMap encI1)) := ho2; have HB2 : Hid (Blk w' B #[.slice (some ⟨g, 0, none⟩) m cap] 59) := hb2; have HG2 : Hid (w.grownBy w' (some g)) := gTrans (gTrans hg.out (gNew (belowDrewN wr q))) hg2; clear ho2 hb2 hg2))
            go_roundw
            case rel => exact ⟨2 * i + 1, swpL hs' i (2 * i + 1), by rw [ec], hcm, HD2, HO2, HB2, HG2⟩
            case measure => simp [intOf]; omega
          · rw [decide_eq_false hlt] at HL2
            have HH : Hid (HeapL hs' n) := hD.out.1.stop LC.out hlt
            clear hlt LC hr
            go_wp2_with (first
              | (go_at_call 66; (with_reducible refine HL1.out.mono ?_); rintro e w' ⟨rfl, q1, rfl⟩)
              | (go_at_call 66; (with_reducible refine (HL2.out _).mono ?_); rintro e w' ⟨rfl, q, rfl⟩))
            go_ret
            exact ⟨⟨_, rfl⟩, hs', HH.out, hD.out.2.2.1, hD.out.2.2.2, ⟨hO.out.1, hO.out.2⟩, hB.out.drewN q, gTrans hg.out (gNew (belowDrewN wr q))⟩
      · have h2z : ¬ 2 * (i : Int) + 1 + 1 < (n : Int) := by omega
        have h2d : decide (2 * (i : Int) + 1 + 1 < (n : Int)) = false := decide_eq_false h2z
        have hr : True := trivial
        have hcm : 2 * i + 1 < m := by omega
        have ec : ((2 * i + 1 : Nat) : Int) = 2 * (i : Int) + 1 := by omega
        have LC : Hid (LowC hs' i n (2 * i + 1)) := LowC.left (by omega) (fun h => absurd h h2)
        have HL2 : Hid (∀ q, Calls Try.prog 66 #[.slice (some ⟨g, 0, none⟩) m cap, .int .i64 (2 * (i : Int) + 1), .int .i64 (i : Int)] (wr.drewN q) fun e w' => e = .returned (.bool (decide (el hs' (2 * i + 1) < el hs' i))) ∧ ∃ q2, w' = wr.drewN q2) := by have h9 := fun q => hLessD (B := B) q hO.out HLN.out hm (i := 2 * i + 1) (j := i) hcm him; rw [ec] at h9; exact h9
        have HSW : Hid (∀ q, Calls Try.prog 67 #[.slice (some ⟨g, 0, none⟩) m cap, .int .i64 (i : Int), .int .i64 (2 * (i : Int) + 1)] (wr.drewN q) fun e w' => e = .returned (.tuple #[]) ∧ w'.ownsRow base 3 1 (.slice (some ⟨g, 0, none⟩) m cap) m ((swpL hs' i (2 * i + 1)).flatMap encI1) ∧ Blk w' B #[.slice (some ⟨g, 0, none⟩) m cap] 59 ∧ (wr.drewN q).grownBy w' (some g)) := by have h9 := fun q => hSwap (B := B) (w := wr.drewN q) ⟨hO.out.1, hO.out.2⟩ (hB.out.drewN q) HLN.out hm (i := i) (j := 2 * i + 1) him hcm; rw [ec] at h9; exact h9
        by_cases hlt : el hs' (2 * i + 1) < el hs' i
        · rw [decide_eq_true hlt] at HL2
          have HL20 : Hid (Calls Try.prog 66 #[.slice (some ⟨g, 0, none⟩) m cap, .int .i64 (2 * (i : Int) + 1), .int .i64 (i : Int)] wr fun e w' => e = .returned (.bool true) ∧ ∃ q2, w' = wr.drewN q2) := HL2.out 0
          have HD2 : Hid (DownL (swpL hs' i (2 * i + 1)) (2 * i + 1) n ∧ (swpL hs' i (2 * i + 1)).length = m ∧ (swpL hs' i (2 * i + 1)).Perm hs ∧ (swpL hs' i (2 * i + 1)).drop n = hs.drop n) := ⟨hD.out.1.swap (by rw [HLN.out]; omega) LC.out hlt, by rw [swp_length]; exact HLN.out, (swp_perm (by rw [HLN.out]; exact him) (by rw [HLN.out]; exact hcm)).trans hD.out.2.2.1, (swp_drop (by omega) (by omega)).trans hD.out.2.2.2⟩
          clear hlt LC hD hr
          go_wp2_with (first
            | (go_at_call 66; refine HL20.out.mono ?_; rintro e w' ⟨rfl, q, rfl⟩)
            | (go_at_call 67; refine (HSW.out _).mono ?_; rintro e w' ⟨rfl, ho2, hb2, hg2⟩; have HO2 : Hid (w'.ownsRow base 3 1 (.slice (some ⟨g, 0, none⟩) m cap) m ((swpL hs' i (2 * i + 1)).flatMap encI1)) := ho2; have HB2 : Hid (Blk w' B #[.slice (some ⟨g, 0, none⟩) m cap] 59) := hb2; have HG2 : Hid (w.grownBy w' (some g)) := gTrans (gTrans hg.out (gNew (belowDrewN wr q))) hg2; clear ho2 hb2 hg2))
          go_roundw
          case rel => exact ⟨2 * i + 1, swpL hs' i (2 * i + 1), by rw [ec], hcm, HD2, HO2, HB2, HG2⟩
          case measure => simp [intOf]; omega
        · rw [decide_eq_false hlt] at HL2
          have HL20 : Hid (Calls Try.prog 66 #[.slice (some ⟨g, 0, none⟩) m cap, .int .i64 (2 * (i : Int) + 1), .int .i64 (i : Int)] wr fun e w' => e = .returned (.bool false) ∧ ∃ q2, w' = wr.drewN q2) := HL2.out 0
          have HH : Hid (HeapL hs' n) := hD.out.1.stop LC.out hlt
          clear hlt LC hr
          go_wp2_with (first
            | (go_at_call 66; refine HL20.out.mono ?_; rintro e w' ⟨rfl, q, rfl⟩))
          go_ret
          exact ⟨⟨_, rfl⟩, hs', HH.out, hD.out.2.2.1, hD.out.2.2.2, ⟨hO.out.1, hO.out.2⟩, hB.out.drewN q, gTrans hg.out (gNew (belowDrewN wr q))⟩
end Go.Proofs.Ytbamaolknpffgaa.Wt
