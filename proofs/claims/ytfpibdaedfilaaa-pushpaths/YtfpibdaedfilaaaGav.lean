/- The program: container/heap's down, at a heap of numbers. -/
import Derived.Test.YtfpibdaedfilaaaGau
import Derived.Test.YtfpibdaedfilaaaGae
namespace Go.Proofs.Ytfpibdaedfilaaa.Wt
open Go.ChangeShapes Go.WideShapes Go.ChangeAt Go.RowKit
open Go.Proofs.Ytfpibdaedfilaaa.Pl
set_option linter.unusedVariables false
set_option linter.unusedSimpArgs false
theorem drewN_two (w : World) (a b : Nat) : (w.drewN a).drewN b = w.drewN (a + b) := by
 show ({ w with drawn := w.drawn + a + b } : World) = { w with drawn := w.drawn + (a + b) }
 rw [Nat.add_assoc]
theorem hLessD {B base g n cap : Nat} {hs : List Int} {w : World} (q : Nat) (hown : w.ownsRow base 3 1 (.slice (some ⟨g, 0, none⟩) n cap) n (hs.flatMap encI1)) (hl : hs.length = n) (hn : n ≤ 1000) {i j : Nat} (hi : i < n) (hj : j < n) :
  Calls Try.prog 121 #[.slice (some ⟨g, 0, none⟩) n cap, .int .i64 (i : Int), .int .i64 (j : Int)] (w.drewN q) fun e w' => e = .returned (.bool (decide (el hs i < el hs j))) ∧ ∃ q2, w' = w.drewN q2 :=
 (hLess (B := B) (w := w.drewN q) ⟨hown.1, hown.2⟩ hl hn hi hj).mono fun _ _ h => ⟨h.1, by obtain ⟨q2, h2⟩ := h.2; exact ⟨q + q2, h2.trans (drewN_two w q q2)⟩⟩
set_option maxRecDepth 100000 in
set_option maxHeartbeats 6400000 in
theorem down_any (B base g m cap n : Nat) (hs : List Int) (w : World) (hB : Blk w B #[.slice (some ⟨g, 0, none⟩) m cap] 125) (hown : w.ownsRow base 3 1 (.slice (some ⟨g, 0, none⟩) m cap) m (hs.flatMap encI1)) (hl : hs.length = m) (hnm : n < m) (hm : m ≤ 1000) (hD : DownL hs 0 n) :
  Calls Try.prog 87 #[.iface 126 (.pointer (some ⟨B, 0, none⟩)), .int .i64 0, .int .i64 (n : Int)] w fun e w' => (∃ b, e = .returned (.bool b)) ∧ ∃ hs', HeapL hs' n ∧ hs'.Perm hs ∧ hs'.drop n = hs.drop n ∧ w'.ownsRow base 3 1 (.slice (some ⟨g, 0, none⟩) m cap) m (hs'.flatMap encI1) ∧ Blk w' B #[.slice (some ⟨g, 0, none⟩) m cap] 125 ∧ w.grownBy w' (some g) := by
 have HB0 : Hid (Blk w B #[.slice (some ⟨g, 0, none⟩) m cap] 125) := hB
 have HO0 : Hid (w.ownsRow base 3 1 (.slice (some ⟨g, 0, none⟩) m cap) m (hs.flatMap encI1)) := hown
 have HD0 : Hid (DownL hs 0 n ∧ hs.length = m ∧ hs.Perm hs ∧ hs.drop n = hs.drop n) := ⟨hD, hl, List.Perm.refl _, rfl⟩
 clear hB hown hl hD
 have hnot : ∀ (x : Bool) (w : World), (Op.unary .not (.bool x)).run Try.prog w = .ok (.bool (!x)) w := fun _ _ => rfl
 go_enter Try.func87, Try.ntmps87
 go_wp2
 go_loopw [7] (fun s7 wr => ∃ (i : Nat) (hs' : List Int), s7 = .int .i64 (i : Int) ∧ i < m ∧ Hid (DownL hs' i n ∧ hs'.length = m ∧ hs'.Perm hs ∧ hs'.drop n = hs.drop n) ∧ Hid (wr.ownsRow base 3 1 (.slice (some ⟨g, 0, none⟩) m cap) m (hs'.flatMap encI1)) ∧ Hid (Blk wr B #[.slice (some ⟨g, 0, none⟩) m cap] 125) ∧ Hid (w.grownBy wr (some g))) (fun s7 _ => m - (intOf s7).toNat)
 case atStart => exact ⟨0, hs, rfl, by omega, ⟨HD0.out.1, HD0.out.2.1, List.Perm.refl _, rfl⟩, HO0, HB0, gNew (Below.refl _ _)⟩
 case round =>
  obtain ⟨i, hs', rfl, him, hD, hO, hB, hg⟩ := hrel
  clear HB0 HO0 HD0
  have HLN : Hid (hs'.length = m) := hD.out.2.1
  have hneg : decide (2 * (i : Int) + 1 < 0) = false := decide_eq_false (by omega)
  by_cases h1 : n ≤ 2 * i + 1
  ·have h1z : (n : Int) ≤ 2 * (i : Int) + 1 := by omega
   have HH : Hid (HeapL hs' n) := hD.out.1.leaf h1
   go_wp2
   go_ret
   exact ⟨⟨_, rfl⟩, hs', HH.out, hD.out.2.2.1, hD.out.2.2.2, hO.out, hB.out, hg.out⟩
  ·have h1z : ¬ (n : Int) ≤ 2 * (i : Int) + 1 := by omega
   have h1d : decide ((n : Int) ≤ 2 * (i : Int) + 1) = false := decide_eq_false h1z
   have mL0 := meth_less (hB.out.cell 0 (v := .slice (some ⟨g, 0, none⟩) m cap) rfl)
   have mL : ∀ q, Sem.run Try.prog (method 287 126 (.pointer (some ⟨B, 0, none⟩)) "Less") (wr.drewN q) = .ok (121, .slice (some ⟨g, 0, none⟩) m cap) (wr.drewN q) := fun q => meth_less ((hB.out.drewN q).cell 0 (v := .slice (some ⟨g, 0, none⟩) m cap) rfl)
   have mS : ∀ q, Sem.run Try.prog (method 287 126 (.pointer (some ⟨B, 0, none⟩)) "Swap") (wr.drewN q) = .ok (122, .slice (some ⟨g, 0, none⟩) m cap) (wr.drewN q) := fun q => meth_swap ((hB.out.drewN q).cell 0 (v := .slice (some ⟨g, 0, none⟩) m cap) rfl)
   by_cases h2 : 2 * i + 1 + 1 < n
   ·have h2z : 2 * (i : Int) + 1 + 1 < (n : Int) := by omega
    have h2d : decide (2 * (i : Int) + 1 + 1 < (n : Int)) = true := decide_eq_true h2z
    by_cases hr : el hs' (2 * i + 1 + 1) < el hs' (2 * i + 1)
    ·skip
     have hcm : 2 * i + 1 + 1 < m := by omega
     have ec : ((2 * i + 1 + 1 : Nat) : Int) = 2 * (i : Int) + 1 + 1 := by omega
     have LC : Hid (LowC hs' i n (2 * i + 1 + 1)) := LowC.right h2 hr
     have HL2 : Hid (∀ q, Calls Try.prog 121 #[.slice (some ⟨g, 0, none⟩) m cap, .int .i64 (2 * (i : Int) + 1 + 1), .int .i64 (i : Int)] (wr.drewN q) fun e w' => e = .returned (.bool (decide (el hs' (2 * i + 1 + 1) < el hs' i))) ∧ ∃ q2, w' = wr.drewN q2) := by have h9 := fun q => hLessD (B := B) q hO.out HLN.out hm (i := 2 * i + 1 + 1) (j := i) hcm him; rw [ec] at h9; exact h9
     have HL1 : Hid (Calls Try.prog 121 #[.slice (some ⟨g, 0, none⟩) m cap, .int .i64 (2 * (i : Int) + 1 + 1), .int .i64 (2 * (i : Int) + 1)] wr fun e w' => e = .returned (.bool true) ∧ ∃ q2, w' = wr.drewN q2) := by have h9 := hLessD (B := B) 0 hO.out HLN.out hm (i := 2 * i + 1 + 1) (j := 2 * i + 1) (by omega) (by omega); rw [show ((2 * i + 1 + 1 : Nat) : Int) = 2 * (i : Int) + 1 + 1 by omega, show ((2 * i + 1 : Nat) : Int) = 2 * (i : Int) + 1 by omega] at h9; rw [decide_eq_true hr] at h9; exact h9
     have HSW : Hid (∀ q, Calls Try.prog 122 #[.slice (some ⟨g, 0, none⟩) m cap, .int .i64 (i : Int), .int .i64 (2 * (i : Int) + 1 + 1)] (wr.drewN q) fun e w' => e = .returned (.tuple #[]) ∧ w'.ownsRow base 3 1 (.slice (some ⟨g, 0, none⟩) m cap) m ((swpL hs' i (2 * i + 1 + 1)).flatMap encI1) ∧ Blk w' B #[.slice (some ⟨g, 0, none⟩) m cap] 125 ∧ (wr.drewN q).grownBy w' (some g)) := by have h9 := fun q => hSwap (B := B) (w := wr.drewN q) ⟨hO.out.1, hO.out.2⟩ (hB.out.drewN q) HLN.out hm (i := i) (j := 2 * i + 1 + 1) him hcm; rw [ec] at h9; exact h9
     by_cases hlt : el hs' (2 * i + 1 + 1) < el hs' i
     ·rw [decide_eq_true hlt] at HL2
      have HD2 : Hid (DownL (swpL hs' i (2 * i + 1 + 1)) (2 * i + 1 + 1) n ∧ (swpL hs' i (2 * i + 1 + 1)).length = m ∧ (swpL hs' i (2 * i + 1 + 1)).Perm hs ∧ (swpL hs' i (2 * i + 1 + 1)).drop n = hs.drop n) := ⟨hD.out.1.swap (by rw [HLN.out]; omega) LC.out hlt, by rw [swp_length]; exact HLN.out, (swp_perm (by rw [HLN.out]; exact him) (by rw [HLN.out]; exact hcm)).trans hD.out.2.2.1, (swp_drop (by omega) (by omega)).trans hD.out.2.2.2⟩
      clear hlt LC hD hr
      go_wp2_with (first
       | (go_at_call 121; (with_reducible refine HL1.out.mono ?_); rintro e w' ⟨rfl, q1, rfl⟩)
       | (go_at_call 121; (with_reducible refine (HL2.out _).mono ?_); rintro e w' ⟨rfl, q, rfl⟩)
       | (go_at_call 122; refine (HSW.out _).mono ?_; rintro e w' ⟨rfl, ho2, hb2, hg2⟩; have HO2 : Hid (w'.ownsRow base 3 1 (.slice (some ⟨g, 0, none⟩) m cap) m ((swpL hs' i (2 * i + 1 + 1)).flatMap encI1)) := ho2; have HB2 : Hid (Blk w' B #[.slice (some ⟨g, 0, none⟩) m cap] 125) := hb2; have HG2 : Hid (w.grownBy w' (some g)) := gTrans (gTrans hg.out (gNew (belowDN wr q))) hg2; clear ho2 hb2 hg2))
      go_roundw
      case rel => exact ⟨2 * i + 1 + 1, swpL hs' i (2 * i + 1 + 1), by rw [ec], hcm, HD2, HO2, HB2, HG2⟩
      case measure => simp [intOf]; omega
     ·rw [decide_eq_false hlt] at HL2
      have HH : Hid (HeapL hs' n) := hD.out.1.stop LC.out hlt
      clear hlt LC hr
      go_wp2_with (first
       | (go_at_call 121; (with_reducible refine HL1.out.mono ?_); rintro e w' ⟨rfl, q1, rfl⟩)
       | (go_at_call 121; (with_reducible refine (HL2.out _).mono ?_); rintro e w' ⟨rfl, q, rfl⟩))
      go_ret
      exact ⟨⟨_, rfl⟩, hs', HH.out, hD.out.2.2.1, hD.out.2.2.2, ⟨hO.out.1, hO.out.2⟩, hB.out.drewN q, gTrans hg.out (gNew (belowDN wr q))⟩
    ·skip
     have hcm : 2 * i + 1 < m := by omega
     have ec : ((2 * i + 1 : Nat) : Int) = 2 * (i : Int) + 1 := by omega
     have LC : Hid (LowC hs' i n (2 * i + 1)) := LowC.left (by omega) (fun _ => hr)
     have HL2 : Hid (∀ q, Calls Try.prog 121 #[.slice (some ⟨g, 0, none⟩) m cap, .int .i64 (2 * (i : Int) + 1), .int .i64 (i : Int)] (wr.drewN q) fun e w' => e = .returned (.bool (decide (el hs' (2 * i + 1) < el hs' i))) ∧ ∃ q2, w' = wr.drewN q2) := by have h9 := fun q => hLessD (B := B) q hO.out HLN.out hm (i := 2 * i + 1) (j := i) hcm him; rw [ec] at h9; exact h9
     have HL1 : Hid (Calls Try.prog 121 #[.slice (some ⟨g, 0, none⟩) m cap, .int .i64 (2 * (i : Int) + 1 + 1), .int .i64 (2 * (i : Int) + 1)] wr fun e w' => e = .returned (.bool false) ∧ ∃ q2, w' = wr.drewN q2) := by have h9 := hLessD (B := B) 0 hO.out HLN.out hm (i := 2 * i + 1 + 1) (j := 2 * i + 1) (by omega) (by omega); rw [show ((2 * i + 1 + 1 : Nat) : Int) = 2 * (i : Int) + 1 + 1 by omega, show ((2 * i + 1 : Nat) : Int) = 2 * (i : Int) + 1 by omega] at h9; rw [decide_eq_false hr] at h9; exact h9
     have HSW : Hid (∀ q, Calls Try.prog 122 #[.slice (some ⟨g, 0, none⟩) m cap, .int .i64 (i : Int), .int .i64 (2 * (i : Int) + 1)] (wr.drewN q) fun e w' => e = .returned (.tuple #[]) ∧ w'.ownsRow base 3 1 (.slice (some ⟨g, 0, none⟩) m cap) m ((swpL hs' i (2 * i + 1)).flatMap encI1) ∧ Blk w' B #[.slice (some ⟨g, 0, none⟩) m cap] 125 ∧ (wr.drewN q).grownBy w' (some g)) := by have h9 := fun q => hSwap (B := B) (w := wr.drewN q) ⟨hO.out.1, hO.out.2⟩ (hB.out.drewN q) HLN.out hm (i := i) (j := 2 * i + 1) him hcm; rw [ec] at h9; exact h9
     by_cases hlt : el hs' (2 * i + 1) < el hs' i
     ·rw [decide_eq_true hlt] at HL2
      have HD2 : Hid (DownL (swpL hs' i (2 * i + 1)) (2 * i + 1) n ∧ (swpL hs' i (2 * i + 1)).length = m ∧ (swpL hs' i (2 * i + 1)).Perm hs ∧ (swpL hs' i (2 * i + 1)).drop n = hs.drop n) := ⟨hD.out.1.swap (by rw [HLN.out]; omega) LC.out hlt, by rw [swp_length]; exact HLN.out, (swp_perm (by rw [HLN.out]; exact him) (by rw [HLN.out]; exact hcm)).trans hD.out.2.2.1, (swp_drop (by omega) (by omega)).trans hD.out.2.2.2⟩
      clear hlt LC hD hr
      go_wp2_with (first
       | (go_at_call 121; (with_reducible refine HL1.out.mono ?_); rintro e w' ⟨rfl, q1, rfl⟩)
       | (go_at_call 121; (with_reducible refine (HL2.out _).mono ?_); rintro e w' ⟨rfl, q, rfl⟩)
       | (go_at_call 122; refine (HSW.out _).mono ?_; rintro e w' ⟨rfl, ho2, hb2, hg2⟩; have HO2 : Hid (w'.ownsRow base 3 1 (.slice (some ⟨g, 0, none⟩) m cap) m ((swpL hs' i (2 * i + 1)).flatMap encI1)) := ho2; have HB2 : Hid (Blk w' B #[.slice (some ⟨g, 0, none⟩) m cap] 125) := hb2; have HG2 : Hid (w.grownBy w' (some g)) := gTrans (gTrans hg.out (gNew (belowDN wr q))) hg2; clear ho2 hb2 hg2))
      go_roundw
      case rel => exact ⟨2 * i + 1, swpL hs' i (2 * i + 1), by rw [ec], hcm, HD2, HO2, HB2, HG2⟩
      case measure => simp [intOf]; omega
     ·rw [decide_eq_false hlt] at HL2
      have HH : Hid (HeapL hs' n) := hD.out.1.stop LC.out hlt
      clear hlt LC hr
      go_wp2_with (first
       | (go_at_call 121; (with_reducible refine HL1.out.mono ?_); rintro e w' ⟨rfl, q1, rfl⟩)
       | (go_at_call 121; (with_reducible refine (HL2.out _).mono ?_); rintro e w' ⟨rfl, q, rfl⟩))
      go_ret
      exact ⟨⟨_, rfl⟩, hs', HH.out, hD.out.2.2.1, hD.out.2.2.2, ⟨hO.out.1, hO.out.2⟩, hB.out.drewN q, gTrans hg.out (gNew (belowDN wr q))⟩
   ·have h2z : ¬ 2 * (i : Int) + 1 + 1 < (n : Int) := by omega
    have h2d : decide (2 * (i : Int) + 1 + 1 < (n : Int)) = false := decide_eq_false h2z
    have hr : True := trivial
    have hcm : 2 * i + 1 < m := by omega
    have ec : ((2 * i + 1 : Nat) : Int) = 2 * (i : Int) + 1 := by omega
    have LC : Hid (LowC hs' i n (2 * i + 1)) := LowC.left (by omega) (fun h => absurd h h2)
    have HL2 : Hid (∀ q, Calls Try.prog 121 #[.slice (some ⟨g, 0, none⟩) m cap, .int .i64 (2 * (i : Int) + 1), .int .i64 (i : Int)] (wr.drewN q) fun e w' => e = .returned (.bool (decide (el hs' (2 * i + 1) < el hs' i))) ∧ ∃ q2, w' = wr.drewN q2) := by have h9 := fun q => hLessD (B := B) q hO.out HLN.out hm (i := 2 * i + 1) (j := i) hcm him; rw [ec] at h9; exact h9
    have HSW : Hid (∀ q, Calls Try.prog 122 #[.slice (some ⟨g, 0, none⟩) m cap, .int .i64 (i : Int), .int .i64 (2 * (i : Int) + 1)] (wr.drewN q) fun e w' => e = .returned (.tuple #[]) ∧ w'.ownsRow base 3 1 (.slice (some ⟨g, 0, none⟩) m cap) m ((swpL hs' i (2 * i + 1)).flatMap encI1) ∧ Blk w' B #[.slice (some ⟨g, 0, none⟩) m cap] 125 ∧ (wr.drewN q).grownBy w' (some g)) := by have h9 := fun q => hSwap (B := B) (w := wr.drewN q) ⟨hO.out.1, hO.out.2⟩ (hB.out.drewN q) HLN.out hm (i := i) (j := 2 * i + 1) him hcm; rw [ec] at h9; exact h9
    by_cases hlt : el hs' (2 * i + 1) < el hs' i
    ·rw [decide_eq_true hlt] at HL2
     have HL20 : Hid (Calls Try.prog 121 #[.slice (some ⟨g, 0, none⟩) m cap, .int .i64 (2 * (i : Int) + 1), .int .i64 (i : Int)] wr fun e w' => e = .returned (.bool true) ∧ ∃ q2, w' = wr.drewN q2) := HL2.out 0
     have HD2 : Hid (DownL (swpL hs' i (2 * i + 1)) (2 * i + 1) n ∧ (swpL hs' i (2 * i + 1)).length = m ∧ (swpL hs' i (2 * i + 1)).Perm hs ∧ (swpL hs' i (2 * i + 1)).drop n = hs.drop n) := ⟨hD.out.1.swap (by rw [HLN.out]; omega) LC.out hlt, by rw [swp_length]; exact HLN.out, (swp_perm (by rw [HLN.out]; exact him) (by rw [HLN.out]; exact hcm)).trans hD.out.2.2.1, (swp_drop (by omega) (by omega)).trans hD.out.2.2.2⟩
     clear hlt LC hD hr
     go_wp2_with (first
      | (go_at_call 121; refine HL20.out.mono ?_; rintro e w' ⟨rfl, q, rfl⟩)
      | (go_at_call 122; refine (HSW.out _).mono ?_; rintro e w' ⟨rfl, ho2, hb2, hg2⟩; have HO2 : Hid (w'.ownsRow base 3 1 (.slice (some ⟨g, 0, none⟩) m cap) m ((swpL hs' i (2 * i + 1)).flatMap encI1)) := ho2; have HB2 : Hid (Blk w' B #[.slice (some ⟨g, 0, none⟩) m cap] 125) := hb2; have HG2 : Hid (w.grownBy w' (some g)) := gTrans (gTrans hg.out (gNew (belowDN wr q))) hg2; clear ho2 hb2 hg2))
     go_roundw
     case rel => exact ⟨2 * i + 1, swpL hs' i (2 * i + 1), by rw [ec], hcm, HD2, HO2, HB2, HG2⟩
     case measure => simp [intOf]; omega
    ·rw [decide_eq_false hlt] at HL2
     have HL20 : Hid (Calls Try.prog 121 #[.slice (some ⟨g, 0, none⟩) m cap, .int .i64 (2 * (i : Int) + 1), .int .i64 (i : Int)] wr fun e w' => e = .returned (.bool false) ∧ ∃ q2, w' = wr.drewN q2) := HL2.out 0
     have HH : Hid (HeapL hs' n) := hD.out.1.stop LC.out hlt
     clear hlt LC hr
     go_wp2_with (first
      | (go_at_call 121; refine HL20.out.mono ?_; rintro e w' ⟨rfl, q, rfl⟩))
     go_ret
     exact ⟨⟨_, rfl⟩, hs', HH.out, hD.out.2.2.1, hD.out.2.2.2, ⟨hO.out.1, hO.out.2⟩, hB.out.drewN q, gTrans hg.out (gNew (belowDN wr q))⟩
set_option maxRecDepth 100000 in
set_option maxHeartbeats 3200000 in
theorem hPush_any (B base : Nat) (v : Value) (hs : List Int) (q : Int) (w : World) (hB : Blk w B #[v] 125) (hown : w.ownsRow base 3 1 v hs.length (hs.flatMap encI1)) (hbase : base ≤ w.heap.size) (hn : hs.length ≤ 900) (hH : HeapL hs hs.length) :
  Calls Try.prog 70 #[.iface 126 (.pointer (some ⟨B, 0, none⟩)), .iface 3 (.int .i64 q)] w fun e w' => e = .returned (.tuple #[]) ∧ ∃ v' hs', HeapL hs' hs'.length ∧ hs'.Perm (hs ++ [q]) ∧ Blk w' B #[v'] 125 ∧ w'.ownsRow base 3 1 v' hs'.length (hs'.flatMap encI1) ∧ Near w v.ownBlock v' ∧ Turn2 w w' B v.ownBlock := by
 have HP : Hid (Calls Try.prog 124 #[.pointer (some ⟨B, 0, none⟩), .iface 3 (.int .i64 q)] w fun e w' => e = .returned (.tuple #[]) ∧ ∃ v', Blk w' B #[v'] 125 ∧ w'.ownsRow base 3 1 v' (hs ++ [q]).length ((hs ++ [q]).flatMap encI1) ∧ Near w v.ownBlock v' ∧ Turn2 w w' B v.ownBlock) := rPush_any B base v hs q w hB hown hbase (by omega)
 have HU : Hid (UpL (hs ++ [q]) hs.length) := UpL.start hH q
 have HL : Hid ((hs ++ [q]).length = hs.length + 1) := by simp [Hid]
 have mP := meth_push B w
 generalize hs ++ [q] = hq at *
 generalize hs.length = n at *
 clear hB hown hH
 generalize v.ownBlock = r at *
 go_enter Try.func70, Try.ntmps70
 go_wp2_with (first
  | (go_at_call 124; (with_reducible refine HP.out.mono ?_); rintro e w1 ⟨rfl, v1, hb1, ho1, hn1, ht1⟩; obtain ⟨g1, cap1, hv1, _, _, _⟩ := own_some ho1 (by rw [HL.out]; omega); subst hv1; rw [HL.out] at ho1 hb1 hn1; have HB1 : Hid (Blk w1 B #[.slice (some ⟨g1, 0, none⟩) (n + 1) cap1] 125) := hb1; have HO1 : Hid (w1.ownsRow base 3 1 (.slice (some ⟨g1, 0, none⟩) (n + 1) cap1) (n + 1) (hq.flatMap encI1)) := ho1; have HN1 : Hid (Near w r (.slice (some ⟨g1, 0, none⟩) (n + 1) cap1)) := hn1; have HT1 : Hid (Turn2 w w1 B r) := ht1; have mN := meth_len (hb1.cell 0 (v := .slice (some ⟨g1, 0, none⟩) (n + 1) cap1) rfl); clear hb1 ho1 hn1 ht1)
  | (go_at_call 74; (with_reducible refine (rLen_any _ _ _ _).mono ?_); rintro e w2 ⟨rfl, rfl⟩)
  | (go_at_call 86; (with_reducible refine (up_any B base g1 (n + 1) cap1 hq n _ HB1.out HO1.out HL.out (by omega) HU.out (by omega)).mono ?_); rintro e w3 ⟨rfl, hs3, hh3, hp3, ho3, hb3, hg3⟩))
 go_end0
 have hl3 : hs3.length = n + 1 := by rw [hp3.length_eq]; exact HL.out
 refine ⟨rfl, _, hs3, by rw [hl3]; exact hh3, hp3, hb3, by rw [hl3]; exact ho3, HN1.out, HT1.out.trans (Turn2.grown hg3 B) ?_⟩
 rcases HN1.out with e | ⟨c, e, hc⟩
 ·exact .inl e
 ·exact .inr ⟨c, e, hc⟩
set_option maxRecDepth 100000 in
set_option maxHeartbeats 3200000 in
theorem hPop_any (B base : Nat) (v : Value) (hs : List Int) (w : World) (hB : Blk w B #[v] 125) (hown : w.ownsRow base 3 1 v hs.length (hs.flatMap encI1)) (h0 : 0 < hs.length) (hn : hs.length ≤ 900) (hH : HeapL hs hs.length) :
  Calls Try.prog 72 #[.iface 126 (.pointer (some ⟨B, 0, none⟩))] w fun e w' => ∃ x, e = .returned (.iface 3 (.int .i64 x)) ∧ ∃ v' hs', HeapL hs' hs'.length ∧ (x :: hs').Perm hs ∧ (∀ y ∈ hs', x ≤ y) ∧ Blk w' B #[v'] 125 ∧ w'.ownsRow base 3 1 v' hs'.length (hs'.flatMap encI1) ∧ v'.ownBlock = v.ownBlock ∧ Turn2 w w' B v.ownBlock := by
 obtain ⟨n, hl⟩ : ∃ n, hs.length = n + 1 := ⟨hs.length - 1, by omega⟩
 rw [hl] at hown
 obtain ⟨g, cap, hv, _, _, _⟩ := own_some hown (by omega)
 subst hv
 have HLN : Hid (hs.length = n + 1) := hl
 have HH : Hid (HeapL hs hs.length) := hH
 have mN := meth_len (hB.cell 0 (v := .slice (some ⟨g, 0, none⟩) (n + 1) cap) rfl)
 have mS := meth_swap (hB.cell 0 (v := .slice (some ⟨g, 0, none⟩) (n + 1) cap) rfl)
 have HSW : Hid (Calls Try.prog 122 #[.slice (some ⟨g, 0, none⟩) (n + 1) cap, .int .i64 0, .int .i64 (n : Int)] w fun e w' => e = .returned (.tuple #[]) ∧ w'.ownsRow base 3 1 (.slice (some ⟨g, 0, none⟩) (n + 1) cap) (n + 1) ((swpL hs 0 n).flatMap encI1) ∧ Blk w' B #[.slice (some ⟨g, 0, none⟩) (n + 1) cap] 125 ∧ w.grownBy w' (some g)) := hSwap (B := B) hown hB hl (by omega) (i := 0) (j := n) (by omega) (by omega)
 have HD : Hid (DownL (swpL hs 0 n) 0 n) := DownL.start hH hl
 have HLS : Hid ((swpL hs 0 n).length = n + 1) := by show _ = _; rw [swp_length]; exact hl
 have mP := meth_pop B
 have h9 : n ≤ 900 := by omega
 clear hB hown hH hl hn h0
 generalize hsw : swpL hs 0 n = hq at *
 have HSQ : Hid (swpL hs 0 n = hq) := hsw
 clear hsw
 go_enter Try.func72, Try.ntmps72
 go_wp2_with (first
  | (go_at_call 74; (with_reducible refine (rLen_any _ _ _ _).mono ?_); rintro e w2 ⟨rfl, rfl⟩)
  | (go_at_call 122; (with_reducible refine HSW.out.mono ?_); rintro e w1 ⟨rfl, ho1, hb1, hg1⟩; have HO1 : Hid (w1.ownsRow base 3 1 (.slice (some ⟨g, 0, none⟩) (n + 1) cap) (n + 1) (hq.flatMap encI1)) := ho1; have HB1 : Hid (Blk w1 B #[.slice (some ⟨g, 0, none⟩) (n + 1) cap] 125) := hb1; have HG1 : Hid (w2.grownBy w1 (some g)) := hg1; clear ho1 hb1 hg1)
  | (go_at_call 87; (with_reducible refine (down_any B base g (n + 1) cap n hq _ HB1.out HO1.out HLS.out (by omega) (by omega) HD.out).mono ?_); rintro e w3 ⟨⟨b3, rfl⟩, hs3, hh3, hp3, hd3, ho3, hb3, hg3⟩; have HO3 : Hid (w3.ownsRow base 3 1 (.slice (some ⟨g, 0, none⟩) (n + 1) cap) hs3.length (hs3.flatMap encI1)) := (by show World.ownsRow _ _ _ _ _ _ _; rw [hp3.length_eq, HLS.out]; exact ho3); have HB3 : Hid (Blk w3 B #[.slice (some ⟨g, 0, none⟩) (n + 1) cap] 125) := hb3; have HG3 : Hid (w1.grownBy w3 (some g)) := hg3; have HF3 : Hid (HeapL hs3 n ∧ hs3.Perm hq ∧ hs3.drop n = hq.drop n) := ⟨hh3, hp3, hd3⟩; clear hh3 hp3 hd3 ho3 hb3 hg3)
  | (go_at_call 123; (with_reducible refine (rPop_any B base _ hs3 n _ HB3.out HO3.out (by rw [HF3.out.2.1.length_eq, HLS.out]) (by omega)).mono ?_); rintro e w4 ⟨rfl, v4, hb4, ho4, hr4, ht4⟩))
 have hpf := pop_facts HH.out HLN.out (by rw [HSQ.out]; exact HF3.out.2.1) (by rw [HSQ.out]; exact HF3.out.2.2) HF3.out.1
 have hl4 : (hs3.take n).length = n := by rw [List.length_take, HF3.out.2.1.length_eq, HLS.out]; omega
 go_ret
 refine ⟨_, rfl, v4, hs3.take n, by rw [hl4]; exact hpf.2.1, by rw [hpf.1]; exact hpf.2.2.1, by rw [hpf.1]; exact hpf.2.2.2, hb4, by rw [hl4]; exact ho4, hr4, ?_⟩
 exact (Turn2.grown (gTrans HG1.out HG3.out) B).trans ht4 (.inl rfl)
end Go.Proofs.Ytfpibdaedfilaaa.Wt
namespace Go.Proofs.Ytfpibdaedfilaaa.Pl
def toC (j : Nat) : List Ar → Nat
 | [] => 0
 | a :: l => (if a.2.2.2 = (j : Int) then 1 else 0) + toC j l
theorem toC_append (j : Nat) (a b : List Ar) : toC j (a ++ b) = toC j a + toC j b := by
 induction a with
 | nil => simp [toC]
 | cons x a ih => simp only [List.cons_append, toC, ih]; omega
theorem toC_take (j : Nat) {ar : List Ar} {c : Nat} (h : c < ar.length) : toC j (ar.take (c + 1)) = toC j (ar.take c) + (if (el ar c).2.2.2 = (j : Int) then 1 else 0) := by
 rw [take_el h, toC_append]; simp [toC]
theorem toC_drop (j : Nat) {ar : List Ar} {c : Nat} (h : c < ar.length) : toC j (ar.drop c) = (if (el ar c).2.2.2 = (j : Int) then 1 else 0) + toC j (ar.drop (c + 1)) := by
 rw [List.drop_eq_getElem_cons h, ← el_get h]; rfl
theorem toC_le (j : Nat) (ar : List Ar) : toC j ar ≤ ar.length := by
 induction ar with
 | nil => simp [toC]
 | cons a l ih => simp only [toC, List.length_cons]; split <;> omega
theorem toC_zero {j : Nat} {ar : List Ar} : toC j ar = 0 ↔ (ar.any fun a => decide (a.2.2.2 = (j : Int))) = false := by
  induction ar with
  | nil => simp [toC]
  | cons a l ih =>
    simp only [toC, List.any_cons, Bool.or_eq_false_iff, decide_eq_false_iff_not]
    rw [← ih]
    split
    · rename_i h; simp [h]
    · rename_i h; simp [h]
def openS (l : List St) (out : List Int) (j : Nat) : Nat → Nat
 | 0 => 0
 | k + 1 => openS l out j k + (if (k : Int) ∈ out then 0 else toC j (el l k).2)
theorem openS_le (l : List St) (out : List Int) (j : Nat) : ∀ k, k ≤ l.length → openS l out j k ≤ arcN (l.take k) := by
  intro k
  induction k with
  | zero => intro _; simp [openS]
  | succ k ih =>
    intro hk
    have h1 := ih (by omega)
    have h2 := toC_le j (el l k).2
    rw [arcN_take (by omega)]
    simp only [openS]
    split <;> omega
theorem openS_put {l : List St} {out : List Int} {q : Nat} (hq : (q : Int) ∉ out) (j : Nat) : ∀ k, openS l (out ++ [(q : Int)]) j k + (if q < k then toC j (el l q).2 else 0) = openS l out j k := by
  intro k
  induction k with
  | zero => simp [openS]
  | succ k ih =>
    simp only [openS]
    by_cases e : k = q
    · subst e
      rw [if_pos (by simp), if_pos (by omega), if_neg hq]
      rw [if_neg (by omega)] at ih
      omega
    · have hm : ((k : Int) ∈ out ++ [(q : Int)]) ↔ (k : Int) ∈ out := by
        simp only [List.mem_append, List.mem_singleton]
        constructor
        · rintro (h | h)
          · exact h
          · omega
        · exact .inl
      by_cases hko : (k : Int) ∈ out
      · rw [if_pos (hm.2 hko), if_pos hko]
        by_cases c : q < k
        · rw [if_pos c] at ih; rw [if_pos (by omega)]; omega
        · rw [if_neg c] at ih; rw [if_neg (by omega)]; omega
      · rw [if_neg (fun h => hko (hm.1 h)), if_neg hko]
        by_cases c : q < k
        · rw [if_pos c] at ih; rw [if_pos (by omega)]; omega
        · rw [if_neg c] at ih; rw [if_neg (by omega)]; omega
theorem openS_zero {l : List St} {out : List Int} {j : Nat} : ∀ k, openS l out j k = 0 ↔ ∀ p, p < k → leadsB l p j = true → (p : Int) ∈ out := by
  intro k
  induction k with
  | zero => simp [openS]
  | succ k ih =>
    simp only [openS]
    constructor
    · intro h p hp hl
      by_cases e : p = k
      · subst e
        by_cases hm : (p : Int) ∈ out
        · exact hm
        · rw [if_neg hm] at h
          have h2 : toC j (el l p).2 = 0 := by omega
          rw [toC_zero] at h2
          unfold leadsB at hl
          rw [h2] at hl
          cases hl
      · exact ih.1 (by omega) p (by omega) hl
    · intro h
      have h1 := ih.2 (fun p hp hl => h p (by omega) hl)
      rw [h1]
      split
      · rfl
      · rename_i hm
        have h2 : toC j (el l k).2 = 0 := by
          rw [toC_zero]
          cases hx : (el l k).2.any fun a => decide (a.2.2.2 = (j : Int)) with
          | false => rfl
          | true => exact absurd (h k (by omega) hx) hm
        omega
theorem low_len {n : Nat} {hs : List Int} (hd : hs.Nodup) (low : ∀ x ∈ hs, ∃ j : Nat, x = (j : Int) ∧ j < n) : hs.length ≤ n := by
 have h1 : (hs.map Int.toNat).length ≤ n := by
  refine pigeon n _ ?_ ?_
  ·rw [List.nodup_iff_pairwise_ne, List.pairwise_map]
   rw [List.nodup_iff_pairwise_ne] at hd
   refine List.Pairwise.imp_of_mem ?_ hd
   intro a b ha hb hab e
   obtain ⟨p, rfl, _⟩ := low a ha
   obtain ⟨q, rfl, _⟩ := low b hb
   simp at e
   exact hab (by rw [e])
  ·intro x hx
   obtain ⟨y, hy, rfl⟩ := List.mem_map.1 hx
   obtain ⟨p, rfl, hp⟩ := low y hy
   simpa using hp
 simpa using h1
structure WaitL (n : Nat) (out : List Int) (op : Nat → Nat) (hs : List Int) : Prop where
 nodup : hs.Nodup
 low : ∀ x ∈ hs, ∃ j : Nat, x = (j : Int) ∧ j < n
 iff : ∀ j, j < n → ((j : Int) ∈ hs ↔ (j : Int) ∉ out ∧ op j = 0)
 told : ∀ j, j < n → (j : Int) ∈ out → op j = 0
theorem WaitL.len {n : Nat} {out : List Int} {op : Nat → Nat} {hs : List Int} (h : WaitL n out op hs) : hs.length ≤ n := low_len h.nodup h.low
structure FirstL (n k : Nat) (op : Nat → Nat) (hs : List Int) : Prop where
 nodup : hs.Nodup
 low : ∀ x ∈ hs, ∃ j : Nat, x = (j : Int) ∧ j < k
 iff : ∀ j, j < k → ((j : Int) ∈ hs ↔ op j = 0)
theorem FirstL.nil (n : Nat) (op : Nat → Nat) : FirstL n 0 op [] := ⟨List.nodup_nil, fun _ hx => absurd hx (List.not_mem_nil), fun _ hj => absurd hj (Nat.not_lt_zero _)⟩
theorem FirstL.skip {n k : Nat} {op : Nat → Nat} {hs : List Int} (h : FirstL n k op hs) (hk : op k ≠ 0) : FirstL n (k + 1) op hs := by
 refine ⟨h.nodup, fun x hx => ?_, fun j hj => ?_⟩
 ·obtain ⟨j, e, hj⟩ := h.low x hx; exact ⟨j, e, by omega⟩
 ·by_cases e : j = k
  ·subst e
   constructor
   ·intro hx
    obtain ⟨j', e, hj'⟩ := h.low _ hx
    omega
   ·intro h0; exact absurd h0 hk
  ·exact h.iff j (by omega)
theorem FirstL.put {n k : Nat} {op : Nat → Nat} {hs hs' : List Int} (h : FirstL n k op hs) (hk : op k = 0) (hp : hs'.Perm (hs ++ [(k : Int)])) : FirstL n (k + 1) op hs' := by
 have hno : (k : Int) ∉ hs := fun hx => by obtain ⟨j, e, hj⟩ := h.low _ hx; omega
 have hm : ∀ x, x ∈ hs' ↔ x ∈ hs ∨ x = (k : Int) := fun x => by rw [hp.mem_iff]; simp
 refine ⟨?_, fun x hx => ?_, fun j hj => ?_⟩
 ·rw [hp.nodup_iff, List.nodup_append]
  exact ⟨h.nodup, by simp, fun a ha b hb e => by simp at hb; subst hb; subst e; exact hno ha⟩
 ·rcases (hm x).1 hx with h1 | h1
  ·obtain ⟨j, e, hj⟩ := h.low x h1; exact ⟨j, e, by omega⟩
  ·exact ⟨k, h1, by omega⟩
 ·rw [hm]
  by_cases e : j = k
  ·subst e; simp [hk]
  ·rw [h.iff j (by omega)]
   constructor
   ·rintro (h1 | h1)
    ·exact h1
    ·omega
   ·exact .inl
theorem FirstL.wait {n : Nat} {op : Nat → Nat} {hs : List Int} (h : FirstL n n op hs) : WaitL n [] op hs := ⟨h.nodup, h.low, fun j hj => by rw [h.iff j hj]; simp, fun _ _ hm => absurd hm (List.not_mem_nil)⟩
theorem WaitL.pop {n : Nat} {out : List Int} {op : Nat → Nat} {hs hs' : List Int} {x : Int} (h : WaitL n out op hs) (hp : (x :: hs').Perm hs) : WaitL n (out ++ [x]) op hs' := by
 have hm : ∀ y, y ∈ hs ↔ y = x ∨ y ∈ hs' := fun y => by rw [← hp.mem_iff]; simp
 have hnd := hp.nodup_iff.2 h.nodup
 rw [List.nodup_cons] at hnd
 refine ⟨hnd.2, fun y hy => h.low y ((hm y).2 (.inr hy)), fun j hj => ?_, fun j hj hmm => ?_⟩
 ·rw [List.mem_append, List.mem_singleton]
  constructor
  ·intro hy
   have h1 := (h.iff j hj).1 ((hm _).2 (.inr hy))
   refine ⟨?_, h1.2⟩
   rintro (h2 | h2)
   ·exact h1.1 h2
   ·rw [h2] at hy; exact hnd.1 hy
  ·rintro ⟨h1, h2⟩
   have h3 := (h.iff j hj).2 ⟨fun h4 => h1 (.inl h4), h2⟩
   rcases (hm _).1 h3 with h4 | h4
   ·exact absurd (.inr h4) h1
   ·exact h4
 ·rw [List.mem_append, List.mem_singleton] at hmm
  rcases hmm with h1 | h1
  ·exact h.told j hj h1
  ·exact ((h.iff j hj).1 ((hm _).2 (.inl h1))).2
theorem WaitL.less {n : Nat} {out : List Int} {op op' : Nat → Nat} {hs : List Int} {t : Nat} (h : WaitL n out op hs) (ht : t < n) (h0 : op' t ≠ 0) (h1 : op t ≠ 0) (hs' : ∀ j, j ≠ t → op' j = op j) : WaitL n out op' hs := by
 refine ⟨h.nodup, h.low, fun j hj => ?_, fun j hj hm => ?_⟩
 ·by_cases e : j = t
  ·subst e; rw [h.iff j hj]; simp [h0, h1]
  ·rw [hs' j e]; exact h.iff j hj
 ·by_cases e : j = t
  ·subst e; exact absurd (h.told j hj hm) h1
  ·rw [hs' j e]; exact h.told j hj hm
theorem WaitL.put {n : Nat} {out : List Int} {op op' : Nat → Nat} {hs hs' : List Int} {t : Nat} (h : WaitL n out op hs) (ht : t < n) (h0 : op' t = 0) (h1 : op t ≠ 0) (hs0 : ∀ j, j ≠ t → op' j = op j) (hp : hs'.Perm (hs ++ [(t : Int)])) : WaitL n out op' hs' := by
 have hno : (t : Int) ∉ hs := fun hx => h1 ((h.iff t ht).1 hx).2
 have hout : (t : Int) ∉ out := fun hx => h1 (h.told t ht hx)
 have hm : ∀ x, x ∈ hs' ↔ x ∈ hs ∨ x = (t : Int) := fun x => by rw [hp.mem_iff]; simp
 refine ⟨?_, fun x hx => ?_, fun j hj => ?_, fun j hj hmm => ?_⟩
 ·rw [hp.nodup_iff, List.nodup_append]
  exact ⟨h.nodup, by simp, fun a ha b hb e => by simp at hb; subst hb; subst e; exact hno ha⟩
 ·rcases (hm x).1 hx with h2 | h2
  ·exact h.low x h2
  ·exact ⟨t, h2, ht⟩
 ·rw [hm]
  by_cases e : j = t
  ·subst e; simp [hout, h0]
  ·rw [hs0 j e, h.iff j hj]
   constructor
   ·rintro (h2 | h2)
    ·exact h2
    ·omega
   ·exact .inl
 ·by_cases e : j = t
  ·subst e; exact absurd hmm hout
  ·rw [hs0 j e]; exact h.told j hj hmm
def OpenQ (l : List St) (out : List Int) (op : Nat → Nat) : Prop := ∀ j, op j = openS l out j l.length
theorem OpenQ.free {l : List St} {out : List Int} {op : Nat → Nat} {hs : List Int} (h : WaitL l.length out op hs) (ho : OpenQ l out op) {j : Nat} (hj : j < l.length) : (j : Int) ∈ hs ↔ FreeQ l out j := by
 rw [h.iff j hj, ho j, openS_zero]; rfl
theorem OpenQ.next {l : List St} {out : List Int} {op : Nat → Nat} {hs : List Int} (h : WaitL l.length out op hs) (ho : OpenQ l out op) {x : Int} (hx : x ∈ hs) (hle : ∀ y ∈ hs, x ≤ y) : NextQ l out x := by
 obtain ⟨q, rfl, hq⟩ := h.low x hx
 refine ⟨q, rfl, hq, (OpenQ.free h ho hq).1 hx, fun p hp hf => ?_⟩
 have := hle _ ((OpenQ.free h ho (by omega)).2 hf)
 omega
theorem OpenQ.none {l : List St} {out : List Int} {op : Nat → Nat} (h : WaitL l.length out op []) (ho : OpenQ l out op) : ∀ q, q < l.length → ¬ FreeQ l out q := fun q hq hf => by
 have := (OpenQ.free h ho hq).2 hf
 cases this
theorem StepsL.len {l : List St} {out : List Int} (h : StepsL l out) : out.length ≤ l.length := low_len h.nodup (fun _ hx => h.mem hx)
def ToldL (l : List St) (out : List Int) : Prop := StepsL l out ∧ ∀ q, q < l.length → ¬ FreeQ l out q
theorem ToldL.order {l : List St} {out : List Int} (h : ToldL l out) (hl : ¬ out.length < l.length) : OrderL l out := ⟨h.1, Nat.le_antisymm h.1.len (Nat.le_of_not_lt hl)⟩
theorem ToldL.cycle {l : List St} {out : List Int} (h : ToldL l out) (hl : out.length < l.length) : CycleL l := ⟨out, h.1, hl, h.2⟩
def OpenA (l : List St) (out : List Int) (q c : Nat) (op : Nat → Nat) : Prop := ∀ j, op j = openS l (out ++ [(q : Int)]) j l.length + toC j ((el l q).2.drop c)
theorem OpenA.start {l : List St} {out : List Int} {op : Nat → Nat} (h : OpenQ l out op) {q : Nat} (hq : (q : Int) ∉ out) (hl : q < l.length) : OpenA l out q 0 op := by
 intro j
 rw [h j, List.drop_zero, ← openS_put hq j l.length, if_pos hl]
theorem OpenA.done {l : List St} {out : List Int} {op : Nat → Nat} {q c : Nat} (h : OpenA l out q c op) (hc : (el l q).2.length ≤ c) : OpenQ l (out ++ [(q : Int)]) op := by
 intro j
 rw [h j, List.drop_of_length_le hc]
 simp [toC]
theorem OpenA.step {l : List St} {out : List Int} {op : Nat → Nat} {q c t : Nat} (h : OpenA l out q c op) (hc : c < (el l q).2.length) (ht : (el (el l q).2 c).2.2.2 = (t : Int)) :
  op t ≠ 0 ∧ OpenA l out q (c + 1) (fun j => if j = t then op t - 1 else op j) := by
 have h1 := h t
 rw [toC_drop t hc, if_pos ht] at h1
 refine ⟨by omega, fun j => ?_⟩
 simp only
 split
 ·rename_i e; subst e; omega
 ·rename_i e
  rw [h j, toC_drop j hc, if_neg (by rw [ht]; omega)]
  omega
theorem OpenA.le {l : List St} {out : List Int} {op : Nat → Nat} {q c : Nat} (h : OpenA l out q c op) (hq : (q : Int) ∉ out) (hl : q < l.length) (j : Nat) : op j ≤ arcN l := by
 have h1 := openS_put (l := l) hq j l.length
 rw [if_pos hl] at h1
 have h2 := openS_le l out j l.length (Nat.le_refl _)
 rw [List.take_length] at h2
 have h3 : toC j ((el l q).2.drop c) ≤ toC j (el l q).2 := by
  have h4 : toC j (el l q).2 = toC j ((el l q).2.take c) + toC j ((el l q).2.drop c) := by rw [← toC_append, List.take_append_drop]
  omega
 have := h j
 omega
def leadC (l : List St) (j : Nat) (k : Nat) : Nat := openS l [] j k
theorem leadC_succ (l : List St) (j k : Nat) : leadC l j (k + 1) = leadC l j k + toC j (el l k).2 := by simp [leadC, openS]
theorem leadC_open (l : List St) : OpenQ l [] (fun j => leadC l j l.length) := fun _ => rfl
end Go.Proofs.Ytfpibdaedfilaaa.Pl
