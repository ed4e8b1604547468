/- The program: container/heap's up, at a heap of ways. -/
import Derived.Test.YtfpibdaedfilaaaHas
namespace Go.Proofs.Ytfpibdaedfilaaa.Bw
open Go.ChangeShapes Go.WideShapes Go.ChangeAt Go.RowKit
open Go.Proofs.Ytfpibdaedfilaaa.Pl Go.Proofs.Ytfpibdaedfilaaa.Wt
set_option linter.unusedVariables false
set_option linter.unusedSimpArgs false
theorem wkLess {B base g n cap : Nat} {hs : List Ar} {w : World} (hown : w.ownsRow base 134 3 (.slice (some ⟨g, 0, none⟩) n cap) n (hs.flatMap encW)) (hl : hs.length = n) (hn : n ≤ 10000000) {i j : Nat} (hi : i < n) (hj : j < n) :
  Calls Try.prog 125 #[.slice (some ⟨g, 0, none⟩) n cap, .int .i64 (i : Int), .int .i64 (j : Int)] w fun e w' => e = .returned (.bool (decide ((el hs i).2.2.2 < (el hs j).2.2.2))) ∧ Below w.heap.size w w' :=
 wLess_any g n cap w _ _ i j hi hj hn (by obtain ⟨_, _, e, hg, _⟩ := own_someW hown (by omega); simp only [Value.slice.injEq, Option.some.injEq, Addr.mk.injEq, and_true, true_and] at e; obtain ⟨rfl, _⟩ := e; exact hg) (own_thr hown (by omega)).2 (own_thr hown (by omega)).2
theorem wkSwap {B base g n cap : Nat} {hs : List Ar} {w : World} (hown : w.ownsRow base 134 3 (.slice (some ⟨g, 0, none⟩) n cap) n (hs.flatMap encW)) (hB : Blk w B #[.slice (some ⟨g, 0, none⟩) n cap] 136) (hl : hs.length = n) (hn : n ≤ 10000000) {i j : Nat} (hi : i < n) (hj : j < n) :
  Calls Try.prog 126 #[.slice (some ⟨g, 0, none⟩) n cap, .int .i64 (i : Int), .int .i64 (j : Int)] w fun e w' => e = .returned (.tuple #[]) ∧ w'.ownsRow base 134 3 (.slice (some ⟨g, 0, none⟩) n cap) n ((swpW hs i j).flatMap encW) ∧ Blk w' B #[.slice (some ⟨g, 0, none⟩) n cap] 136 ∧ w.grownBy w' (some g) := by
 refine (wSwap_any g n cap w _ _ i j hi hj hn (own_thr hown (by omega)) (own_thr hown (by omega)) (own_thereW hown (by omega)) (own_thereW hown (by omega))).mono ?_
 rintro e w' ⟨rfl, rfl⟩
 have hne : some B ≠ some g := own_ne hown hB (by decide)
 have h0 : w.drew.ownsRow base 134 3 (.slice (some ⟨g, 0, none⟩) n cap) n (hs.flatMap encW) := hown
 have h1 := own_setW h0 (j := i) (by omega) (el hs j)
 have h2 := own_setW h1 (j := j) (by rw [List.length_set]; omega) (el hs i)
 have g0 : w.grownBy w.drew (some g) := gNew ((Below.refl w.heap.size w).drew)
 have g1 := gTrans g0 (gTrans (gSetW w.drew g (i * 3) (el hs j)) (gSetW _ g (j * 3) (el hs i)))
 exact ⟨rfl, h2, hB.grown g1 hne, g1⟩
set_option maxRecDepth 100000 in
set_option maxHeartbeats 3200000 in
theorem wUp_any (B base g n cap : Nat) (hs : List Ar) (j : Nat) (w : World) (hB : Blk w B #[.slice (some ⟨g, 0, none⟩) n cap] 136) (hown : w.ownsRow base 134 3 (.slice (some ⟨g, 0, none⟩) n cap) n (hs.flatMap encW)) (hl : hs.length = n) (hn : n ≤ 10000000) (hU : UpW hs j) (hj : j < n) :
  Calls Try.prog 86 #[.iface 137 (.pointer (some ⟨B, 0, none⟩)), .int .i64 (j : Int)] w fun e w' => e = .returned (.tuple #[]) ∧ ∃ hs', HeapW hs' n ∧ hs'.Perm hs ∧ w'.ownsRow base 134 3 (.slice (some ⟨g, 0, none⟩) n cap) n (hs'.flatMap encW) ∧ Blk w' B #[.slice (some ⟨g, 0, none⟩) n cap] 136 ∧ w.grownBy w' (some g) := by
 have HB0 : Hid (Blk w B #[.slice (some ⟨g, 0, none⟩) n cap] 136) := hB
 have HO0 : Hid (w.ownsRow base 134 3 (.slice (some ⟨g, 0, none⟩) n cap) n (hs.flatMap encW)) := hown
 have HU0 : Hid (UpW hs j ∧ hs.length = n ∧ hs.Perm hs) := ⟨hU, hl, List.Perm.refl _⟩
 clear hB hown hl hU
 have hnot : ∀ (x : Bool) (w : World), (Op.unary .not (.bool x)).run Try.prog w = .ok (.bool (!x)) w := fun _ _ => rfl
 go_enter Try.func86, Try.ntmps86
 go_wp2
 go_loopw [1] (fun s1 wr => ∃ (j : Nat) (hs' : List Ar), s1 = .int .i64 (j : Int) ∧ j < n ∧ Hid (UpW hs' j ∧ hs'.length = n ∧ hs'.Perm hs) ∧ Hid (wr.ownsRow base 134 3 (.slice (some ⟨g, 0, none⟩) n cap) n (hs'.flatMap encW)) ∧ Hid (Blk wr B #[.slice (some ⟨g, 0, none⟩) n cap] 136) ∧ Hid (w.grownBy wr (some g))) (fun s1 _ => (intOf s1).toNat)
 case atStart => exact ⟨j, hs, rfl, hj, HU0, HO0, HB0, gNew (Below.refl _ _)⟩
 case round =>
  obtain ⟨j, hs', rfl, hj, hU, hO, hB, hg⟩ := hrel
  clear HB0 HO0 HU0
  have HLN : Hid (hs'.length = n) := hU.out.2.1
  by_cases hj0 : j = 0
  ·subst hj0
   have HH : Hid (HeapW hs' n) := by have h9 := hU.out.1.top; rw [HLN.out] at h9; exact h9
   go_wp2
   go_end0
   exact ⟨rfl, hs', HH.out, hU.out.2.2, hO.out, hB.out, hg.out⟩
  ·obtain ⟨i, hi⟩ : ∃ i, (j - 1) / 2 = i := ⟨_, rfl⟩
   have hij : i < j := by omega
   have mL := methW_less (hB.out.cell 0 (v := .slice (some ⟨g, 0, none⟩) n cap) rfl)
   have mS : Hid (∀ W, Below wr.heap.size wr W → Sem.run Try.prog (method 287 137 (.pointer (some ⟨B, 0, none⟩)) "Swap") W = .ok (126, .slice (some ⟨g, 0, none⟩) n cap) W) := fun W hW => methW_swap ((hB.out.below hW hB.out.lt).cell 0 (v := .slice (some ⟨g, 0, none⟩) n cap) rfl)
   have HL : Hid (Calls Try.prog 125 #[.slice (some ⟨g, 0, none⟩) n cap, .int .i64 (j : Int), .int .i64 (i : Int)] wr fun e w' => e = .returned (.bool (decide ((el hs' j).2.2.2 < (el hs' i).2.2.2))) ∧ Below wr.heap.size wr w') := wkLess (B := B) hO.out HLN.out hn (i := j) (j := i) hj (by omega)
   have HSW : Hid (∀ W, Below wr.heap.size wr W → Calls Try.prog 126 #[.slice (some ⟨g, 0, none⟩) n cap, .int .i64 (i : Int), .int .i64 (j : Int)] W fun e w' => e = .returned (.tuple #[]) ∧ w'.ownsRow base 134 3 (.slice (some ⟨g, 0, none⟩) n cap) n ((swpW hs' i j).flatMap encW) ∧ Blk w' B #[.slice (some ⟨g, 0, none⟩) n cap] 136 ∧ W.grownBy w' (some g)) := fun W hW => wkSwap (B := B) (w := W) (ownBelow hO.out hW) (hB.out.below hW hB.out.lt) HLN.out hn (i := i) (j := j) (by omega) hj
   have hd : IntKind.i64.wrap (((j : Int) - 1).tdiv 2) = (i : Int) := by
    rw [show (j : Int) - 1 = ((j - 1 : Nat) : Int) by omega, show (2 : Int) = ((2 : Nat) : Int) from rfl, ← Int.ofNat_tdiv, hi]
    exact wrapI (by omega) (by omega)
   have hne : ((i : Int) == (j : Int)) = false := by simp; omega
   by_cases hlt : (el hs' j).2.2.2 < (el hs' i).2.2.2
   ·rw [decide_eq_true hlt] at HL
    have HU2 : Hid (UpW (swpW hs' i j) i ∧ (swpW hs' i j).length = n ∧ (swpW hs' i j).Perm hs) := by
     have h9 := hU.out.1.swap (by omega) (by rw [HLN.out]; exact hj) (by rw [hi]; exact hlt)
     rw [hi] at h9
     exact ⟨h9, by rw [swpW_length]; exact HLN.out, (swpW_perm (by rw [HLN.out]; omega) (by rw [HLN.out]; exact hj)).trans hU.out.2.2⟩
    clear hlt hi
    go_wp2_with (first
     | (go_at_call 125; refine HL.out.mono ?_; rintro e wl ⟨rfl, hbl⟩; have HBL : Hid (Below wr.heap.size wr wl) := hbl; have mSw := mS.out wl hbl; clear hbl)
     | (go_at_call 126; refine (HSW.out _ HBL.out).mono ?_; rintro e w' ⟨rfl, ho2, hb2, hg2⟩; have HO2 : Hid (w'.ownsRow base 134 3 (.slice (some ⟨g, 0, none⟩) n cap) n ((swpW hs' i j).flatMap encW)) := ho2; have HB2 : Hid (Blk w' B #[.slice (some ⟨g, 0, none⟩) n cap] 136) := hb2; have HG2 : Hid (w.grownBy w' (some g)) := gTrans (gTrans hg.out (gNew HBL.out)) hg2; clear ho2 hb2 hg2))
    go_roundw
    case rel => exact ⟨i, swpW hs' i j, rfl, by omega, HU2, HO2, HB2, HG2⟩
    case measure => simp [intOf]; omega
   ·rw [decide_eq_false hlt] at HL
    have HH : Hid (HeapW hs' n) := by have h9 := hU.out.1.stop (by rw [hi]; exact hlt); rw [HLN.out] at h9; exact h9
    clear hlt hi
    go_wp2_with (first
     | (go_at_call 125; refine HL.out.mono ?_; rintro e wl ⟨rfl, hbl⟩; have HBL : Hid (Below wr.heap.size wr wl) := hbl; have mSw := mS.out wl hbl; clear hbl))
    go_end0
    exact ⟨rfl, hs', HH.out, hU.out.2.2, ownBelow hO.out HBL.out, hB.out.below HBL.out hB.out.lt, gTrans hg.out (gNew HBL.out)⟩
theorem wkLessT {B base g n cap : Nat} {hs : List Ar} {wr w : World} (hW : Below wr.heap.size wr w) (hown : wr.ownsRow base 134 3 (.slice (some ⟨g, 0, none⟩) n cap) n (hs.flatMap encW)) (hl : hs.length = n) (hn : n ≤ 10000000) {i j : Nat} (hi : i < n) (hj : j < n) :
  Calls Try.prog 125 #[.slice (some ⟨g, 0, none⟩) n cap, .int .i64 (i : Int), .int .i64 (j : Int)] w fun e w' => e = .returned (.bool (decide ((el hs i).2.2.2 < (el hs j).2.2.2))) ∧ Below wr.heap.size wr w' :=
 (wkLess (B := B) (w := w) (ownBelow hown hW) hl hn hi hj).mono fun _ _ h => ⟨h.1, hW.trans (h.2.mono hW.size)⟩
set_option maxRecDepth 100000 in
set_option maxHeartbeats 6400000 in
theorem wDown_any (B base g m cap n : Nat) (hs : List Ar) (w : World) (hB : Blk w B #[.slice (some ⟨g, 0, none⟩) m cap] 136) (hown : w.ownsRow base 134 3 (.slice (some ⟨g, 0, none⟩) m cap) m (hs.flatMap encW)) (hl : hs.length = m) (hnm : n < m) (hm : m ≤ 10000000) (hD : DownW hs 0 n) :
  Calls Try.prog 87 #[.iface 137 (.pointer (some ⟨B, 0, none⟩)), .int .i64 0, .int .i64 (n : Int)] w fun e w' => (∃ b, e = .returned (.bool b)) ∧ ∃ hs', HeapW hs' n ∧ hs'.Perm hs ∧ hs'.drop n = hs.drop n ∧ w'.ownsRow base 134 3 (.slice (some ⟨g, 0, none⟩) m cap) m (hs'.flatMap encW) ∧ Blk w' B #[.slice (some ⟨g, 0, none⟩) m cap] 136 ∧ w.grownBy w' (some g) := by
 have HB0 : Hid (Blk w B #[.slice (some ⟨g, 0, none⟩) m cap] 136) := hB
 have HO0 : Hid (w.ownsRow base 134 3 (.slice (some ⟨g, 0, none⟩) m cap) m (hs.flatMap encW)) := hown
 have HD0 : Hid (DownW hs 0 n ∧ hs.length = m ∧ hs.Perm hs ∧ hs.drop n = hs.drop n) := ⟨hD, hl, List.Perm.refl _, rfl⟩
 clear hB hown hl hD
 have hnot : ∀ (x : Bool) (w : World), (Op.unary .not (.bool x)).run Try.prog w = .ok (.bool (!x)) w := fun _ _ => rfl
 go_enter Try.func87, Try.ntmps87
 go_wp2
 go_loopw [7] (fun s7 wr => ∃ (i : Nat) (hs' : List Ar), s7 = .int .i64 (i : Int) ∧ i < m ∧ Hid (DownW hs' i n ∧ hs'.length = m ∧ hs'.Perm hs ∧ hs'.drop n = hs.drop n) ∧ Hid (wr.ownsRow base 134 3 (.slice (some ⟨g, 0, none⟩) m cap) m (hs'.flatMap encW)) ∧ Hid (Blk wr B #[.slice (some ⟨g, 0, none⟩) m cap] 136) ∧ Hid (w.grownBy wr (some g))) (fun s7 _ => m - (intOf s7).toNat)
 case atStart => exact ⟨0, hs, rfl, by omega, ⟨HD0.out.1, HD0.out.2.1, List.Perm.refl _, rfl⟩, HO0, HB0, gNew (Below.refl _ _)⟩
 case round =>
  obtain ⟨i, hs', rfl, him, hD, hO, hB, hg⟩ := hrel
  clear HB0 HO0 HD0
  have HLN : Hid (hs'.length = m) := hD.out.2.1
  have hneg : decide (2 * (i : Int) + 1 < 0) = false := decide_eq_false (by omega)
  by_cases h1 : n ≤ 2 * i + 1
  ·have h1z : (n : Int) ≤ 2 * (i : Int) + 1 := by omega
   have HH : Hid (HeapW hs' n) := hD.out.1.leaf h1
   go_wp2
   go_ret
   exact ⟨⟨_, rfl⟩, hs', HH.out, hD.out.2.2.1, hD.out.2.2.2, hO.out, hB.out, hg.out⟩
  ·have h1z : ¬ (n : Int) ≤ 2 * (i : Int) + 1 := by omega
   have h1d : decide ((n : Int) ≤ 2 * (i : Int) + 1) = false := decide_eq_false h1z
   have mL0 := methW_less (hB.out.cell 0 (v := .slice (some ⟨g, 0, none⟩) m cap) rfl)
   have mL : Hid (∀ W, Below wr.heap.size wr W → Sem.run Try.prog (method 287 137 (.pointer (some ⟨B, 0, none⟩)) "Less") W = .ok (125, .slice (some ⟨g, 0, none⟩) m cap) W) := fun W hW => methW_less ((hB.out.below hW hB.out.lt).cell 0 (v := .slice (some ⟨g, 0, none⟩) m cap) rfl)
   have mS : Hid (∀ W, Below wr.heap.size wr W → Sem.run Try.prog (method 287 137 (.pointer (some ⟨B, 0, none⟩)) "Swap") W = .ok (126, .slice (some ⟨g, 0, none⟩) m cap) W) := fun W hW => methW_swap ((hB.out.below hW hB.out.lt).cell 0 (v := .slice (some ⟨g, 0, none⟩) m cap) rfl)
   by_cases h2 : 2 * i + 1 + 1 < n
   ·have h2z : 2 * (i : Int) + 1 + 1 < (n : Int) := by omega
    have h2d : decide (2 * (i : Int) + 1 + 1 < (n : Int)) = true := decide_eq_true h2z
    by_cases hr : (el hs' (2 * i + 1 + 1)).2.2.2 < (el hs' (2 * i + 1)).2.2.2
    ·skip
     have hcm : 2 * i + 1 + 1 < m := by omega
     have ec : ((2 * i + 1 + 1 : Nat) : Int) = 2 * (i : Int) + 1 + 1 := by omega
     have LC : Hid (LowW hs' i n (2 * i + 1 + 1)) := LowW.right h2 hr
     have HL2 : Hid (∀ W, Below wr.heap.size wr W → Calls Try.prog 125 #[.slice (some ⟨g, 0, none⟩) m cap, .int .i64 (2 * (i : Int) + 1 + 1), .int .i64 (i : Int)] W fun e w' => e = .returned (.bool (decide ((el hs' (2 * i + 1 + 1)).2.2.2 < (el hs' i).2.2.2))) ∧ Below wr.heap.size wr w') := by have h9 := fun W (hW : Below wr.heap.size wr W) => wkLessT (B := B) hW hO.out HLN.out hm (i := 2 * i + 1 + 1) (j := i) hcm him; rw [ec] at h9; exact h9
     have HL1 : Hid (Calls Try.prog 125 #[.slice (some ⟨g, 0, none⟩) m cap, .int .i64 (2 * (i : Int) + 1 + 1), .int .i64 (2 * (i : Int) + 1)] wr fun e w' => e = .returned (.bool true) ∧ Below wr.heap.size wr w') := by have h9 := wkLessT (B := B) (Below.refl _ wr) hO.out HLN.out hm (i := 2 * i + 1 + 1) (j := 2 * i + 1) (by omega) (by omega); rw [show ((2 * i + 1 + 1 : Nat) : Int) = 2 * (i : Int) + 1 + 1 by omega, show ((2 * i + 1 : Nat) : Int) = 2 * (i : Int) + 1 by omega] at h9; rw [decide_eq_true hr] at h9; exact h9
     have HSW : Hid (∀ W, Below wr.heap.size wr W → Calls Try.prog 126 #[.slice (some ⟨g, 0, none⟩) m cap, .int .i64 (i : Int), .int .i64 (2 * (i : Int) + 1 + 1)] W fun e w' => e = .returned (.tuple #[]) ∧ w'.ownsRow base 134 3 (.slice (some ⟨g, 0, none⟩) m cap) m ((swpW hs' i (2 * i + 1 + 1)).flatMap encW) ∧ Blk w' B #[.slice (some ⟨g, 0, none⟩) m cap] 136 ∧ W.grownBy w' (some g)) := by have h9 := fun W (hW : Below wr.heap.size wr W) => wkSwap (B := B) (w := W) (ownBelow hO.out hW) (hB.out.below hW hB.out.lt) HLN.out hm (i := i) (j := 2 * i + 1 + 1) him hcm; rw [ec] at h9; exact h9
     by_cases hlt : (el hs' (2 * i + 1 + 1)).2.2.2 < (el hs' i).2.2.2
     ·rw [decide_eq_true hlt] at HL2
      have HD2 : Hid (DownW (swpW hs' i (2 * i + 1 + 1)) (2 * i + 1 + 1) n ∧ (swpW hs' i (2 * i + 1 + 1)).length = m ∧ (swpW hs' i (2 * i + 1 + 1)).Perm hs ∧ (swpW hs' i (2 * i + 1 + 1)).drop n = hs.drop n) := ⟨hD.out.1.swap (by rw [HLN.out]; omega) LC.out hlt, by rw [swpW_length]; exact HLN.out, (swpW_perm (by rw [HLN.out]; exact him) (by rw [HLN.out]; exact hcm)).trans hD.out.2.2.1, (swpW_drop (by omega) (by omega)).trans hD.out.2.2.2⟩
      clear hlt LC hD hr
      go_wp2_with (first
       | (go_at_call 125; (with_reducible refine HL1.out.mono ?_); rintro e wk ⟨rfl, hbk⟩; have HBK : Hid (Below wr.heap.size wr wk) := hbk; have mLw := mL.out wk hbk; clear hbk)
       | (go_at_call 125; (with_reducible refine (HL2.out _ HBK.out).mono ?_); rintro e wl ⟨rfl, hbl⟩; have HBL : Hid (Below wr.heap.size wr wl) := hbl; have mSw := mS.out wl hbl; clear hbl)
       | (go_at_call 126; refine (HSW.out _ HBL.out).mono ?_; rintro e w' ⟨rfl, ho2, hb2, hg2⟩; have HO2 : Hid (w'.ownsRow base 134 3 (.slice (some ⟨g, 0, none⟩) m cap) m ((swpW hs' i (2 * i + 1 + 1)).flatMap encW)) := ho2; have HB2 : Hid (Blk w' B #[.slice (some ⟨g, 0, none⟩) m cap] 136) := hb2; have HG2 : Hid (w.grownBy w' (some g)) := gTrans (gTrans hg.out (gNew HBL.out)) hg2; clear ho2 hb2 hg2))
      go_roundw
      case rel => exact ⟨2 * i + 1 + 1, swpW hs' i (2 * i + 1 + 1), by rw [ec], hcm, HD2, HO2, HB2, HG2⟩
      case measure => simp [intOf]; omega
     ·rw [decide_eq_false hlt] at HL2
      have HH : Hid (HeapW hs' n) := hD.out.1.stop LC.out hlt
      clear hlt LC hr
      go_wp2_with (first
       | (go_at_call 125; (with_reducible refine HL1.out.mono ?_); rintro e wk ⟨rfl, hbk⟩; have HBK : Hid (Below wr.heap.size wr wk) := hbk; have mLw := mL.out wk hbk; clear hbk)
       | (go_at_call 125; (with_reducible refine (HL2.out _ HBK.out).mono ?_); rintro e wl ⟨rfl, hbl⟩; have HBL : Hid (Below wr.heap.size wr wl) := hbl; have mSw := mS.out wl hbl; clear hbl))
      go_ret
      exact ⟨⟨_, rfl⟩, hs', HH.out, hD.out.2.2.1, hD.out.2.2.2, ownBelow hO.out HBL.out, hB.out.below HBL.out hB.out.lt, gTrans hg.out (gNew HBL.out)⟩
    ·skip
     have hcm : 2 * i + 1 < m := by omega
     have ec : ((2 * i + 1 : Nat) : Int) = 2 * (i : Int) + 1 := by omega
     have LC : Hid (LowW hs' i n (2 * i + 1)) := LowW.left (by omega) (fun _ => hr)
     have HL2 : Hid (∀ W, Below wr.heap.size wr W → Calls Try.prog 125 #[.slice (some ⟨g, 0, none⟩) m cap, .int .i64 (2 * (i : Int) + 1), .int .i64 (i : Int)] W fun e w' => e = .returned (.bool (decide ((el hs' (2 * i + 1)).2.2.2 < (el hs' i).2.2.2))) ∧ Below wr.heap.size wr w') := by have h9 := fun W (hW : Below wr.heap.size wr W) => wkLessT (B := B) hW hO.out HLN.out hm (i := 2 * i + 1) (j := i) hcm him; rw [ec] at h9; exact h9
     have HL1 : Hid (Calls Try.prog 125 #[.slice (some ⟨g, 0, none⟩) m cap, .int .i64 (2 * (i : Int) + 1 + 1), .int .i64 (2 * (i : Int) + 1)] wr fun e w' => e = .returned (.bool false) ∧ Below wr.heap.size wr w') := by have h9 := wkLessT (B := B) (Below.refl _ wr) hO.out HLN.out hm (i := 2 * i + 1 + 1) (j := 2 * i + 1) (by omega) (by omega); rw [show ((2 * i + 1 + 1 : Nat) : Int) = 2 * (i : Int) + 1 + 1 by omega, show ((2 * i + 1 : Nat) : Int) = 2 * (i : Int) + 1 by omega] at h9; rw [decide_eq_false hr] at h9; exact h9
     have HSW : Hid (∀ W, Below wr.heap.size wr W → Calls Try.prog 126 #[.slice (some ⟨g, 0, none⟩) m cap, .int .i64 (i : Int), .int .i64 (2 * (i : Int) + 1)] W fun e w' => e = .returned (.tuple #[]) ∧ w'.ownsRow base 134 3 (.slice (some ⟨g, 0, none⟩) m cap) m ((swpW hs' i (2 * i + 1)).flatMap encW) ∧ Blk w' B #[.slice (some ⟨g, 0, none⟩) m cap] 136 ∧ W.grownBy w' (some g)) := by have h9 := fun W (hW : Below wr.heap.size wr W) => wkSwap (B := B) (w := W) (ownBelow hO.out hW) (hB.out.below hW hB.out.lt) HLN.out hm (i := i) (j := 2 * i + 1) him hcm; rw [ec] at h9; exact h9
     by_cases hlt : (el hs' (2 * i + 1)).2.2.2 < (el hs' i).2.2.2
     ·rw [decide_eq_true hlt] at HL2
      have HD2 : Hid (DownW (swpW hs' i (2 * i + 1)) (2 * i + 1) n ∧ (swpW hs' i (2 * i + 1)).length = m ∧ (swpW hs' i (2 * i + 1)).Perm hs ∧ (swpW hs' i (2 * i + 1)).drop n = hs.drop n) := ⟨hD.out.1.swap (by rw [HLN.out]; omega) LC.out hlt, by rw [swpW_length]; exact HLN.out, (swpW_perm (by rw [HLN.out]; exact him) (by rw [HLN.out]; exact hcm)).trans hD.out.2.2.1, (swpW_drop (by omega) (by omega)).trans hD.out.2.2.2⟩
      clear hlt LC hD hr
      go_wp2_with (first
       | (go_at_call 125; (with_reducible refine HL1.out.mono ?_); rintro e wk ⟨rfl, hbk⟩; have HBK : Hid (Below wr.heap.size wr wk) := hbk; have mLw := mL.out wk hbk; clear hbk)
       | (go_at_call 125; (with_reducible refine (HL2.out _ HBK.out).mono ?_); rintro e wl ⟨rfl, hbl⟩; have HBL : Hid (Below wr.heap.size wr wl) := hbl; have mSw := mS.out wl hbl; clear hbl)
       | (go_at_call 126; refine (HSW.out _ HBL.out).mono ?_; rintro e w' ⟨rfl, ho2, hb2, hg2⟩; have HO2 : Hid (w'.ownsRow base 134 3 (.slice (some ⟨g, 0, none⟩) m cap) m ((swpW hs' i (2 * i + 1)).flatMap encW)) := ho2; have HB2 : Hid (Blk w' B #[.slice (some ⟨g, 0, none⟩) m cap] 136) := hb2; have HG2 : Hid (w.grownBy w' (some g)) := gTrans (gTrans hg.out (gNew HBL.out)) hg2; clear ho2 hb2 hg2))
      go_roundw
      case rel => exact ⟨2 * i + 1, swpW hs' i (2 * i + 1), by rw [ec], hcm, HD2, HO2, HB2, HG2⟩
      case measure => simp [intOf]; omega
     ·rw [decide_eq_false hlt] at HL2
      have HH : Hid (HeapW hs' n) := hD.out.1.stop LC.out hlt
      clear hlt LC hr
      go_wp2_with (first
       | (go_at_call 125; (with_reducible refine HL1.out.mono ?_); rintro e wk ⟨rfl, hbk⟩; have HBK : Hid (Below wr.heap.size wr wk) := hbk; have mLw := mL.out wk hbk; clear hbk)
       | (go_at_call 125; (with_reducible refine (HL2.out _ HBK.out).mono ?_); rintro e wl ⟨rfl, hbl⟩; have HBL : Hid (Below wr.heap.size wr wl) := hbl; have mSw := mS.out wl hbl; clear hbl))
      go_ret
      exact ⟨⟨_, rfl⟩, hs', HH.out, hD.out.2.2.1, hD.out.2.2.2, ownBelow hO.out HBL.out, hB.out.below HBL.out hB.out.lt, gTrans hg.out (gNew HBL.out)⟩
   ·have h2z : ¬ 2 * (i : Int) + 1 + 1 < (n : Int) := by omega
    have h2d : decide (2 * (i : Int) + 1 + 1 < (n : Int)) = false := decide_eq_false h2z
    have hr : True := trivial
    have hcm : 2 * i + 1 < m := by omega
    have ec : ((2 * i + 1 : Nat) : Int) = 2 * (i : Int) + 1 := by omega
    have LC : Hid (LowW hs' i n (2 * i + 1)) := LowW.left (by omega) (fun h => absurd h h2)
    have HL2 : Hid (∀ W, Below wr.heap.size wr W → Calls Try.prog 125 #[.slice (some ⟨g, 0, none⟩) m cap, .int .i64 (2 * (i : Int) + 1), .int .i64 (i : Int)] W fun e w' => e = .returned (.bool (decide ((el hs' (2 * i + 1)).2.2.2 < (el hs' i).2.2.2))) ∧ Below wr.heap.size wr w') := by have h9 := fun W (hW : Below wr.heap.size wr W) => wkLessT (B := B) hW hO.out HLN.out hm (i := 2 * i + 1) (j := i) hcm him; rw [ec] at h9; exact h9
    have HSW : Hid (∀ W, Below wr.heap.size wr W → Calls Try.prog 126 #[.slice (some ⟨g, 0, none⟩) m cap, .int .i64 (i : Int), .int .i64 (2 * (i : Int) + 1)] W fun e w' => e = .returned (.tuple #[]) ∧ w'.ownsRow base 134 3 (.slice (some ⟨g, 0, none⟩) m cap) m ((swpW hs' i (2 * i + 1)).flatMap encW) ∧ Blk w' B #[.slice (some ⟨g, 0, none⟩) m cap] 136 ∧ W.grownBy w' (some g)) := by have h9 := fun W (hW : Below wr.heap.size wr W) => wkSwap (B := B) (w := W) (ownBelow hO.out hW) (hB.out.below hW hB.out.lt) HLN.out hm (i := i) (j := 2 * i + 1) him hcm; rw [ec] at h9; exact h9
    by_cases hlt : (el hs' (2 * i + 1)).2.2.2 < (el hs' i).2.2.2
    ·rw [decide_eq_true hlt] at HL2
     have HL20 : Hid (Calls Try.prog 125 #[.slice (some ⟨g, 0, none⟩) m cap, .int .i64 (2 * (i : Int) + 1), .int .i64 (i : Int)] wr fun e w' => e = .returned (.bool true) ∧ Below wr.heap.size wr w') := HL2.out _ (Below.refl _ _)
     have HD2 : Hid (DownW (swpW hs' i (2 * i + 1)) (2 * i + 1) n ∧ (swpW hs' i (2 * i + 1)).length = m ∧ (swpW hs' i (2 * i + 1)).Perm hs ∧ (swpW hs' i (2 * i + 1)).drop n = hs.drop n) := ⟨hD.out.1.swap (by rw [HLN.out]; omega) LC.out hlt, by rw [swpW_length]; exact HLN.out, (swpW_perm (by rw [HLN.out]; exact him) (by rw [HLN.out]; exact hcm)).trans hD.out.2.2.1, (swpW_drop (by omega) (by omega)).trans hD.out.2.2.2⟩
     clear hlt LC hD hr
     go_wp2_with (first
      | (go_at_call 125; refine HL20.out.mono ?_; rintro e wl ⟨rfl, hbl⟩; have HBL : Hid (Below wr.heap.size wr wl) := hbl; have mSw := mS.out wl hbl; clear hbl)
      | (go_at_call 126; refine (HSW.out _ HBL.out).mono ?_; rintro e w' ⟨rfl, ho2, hb2, hg2⟩; have HO2 : Hid (w'.ownsRow base 134 3 (.slice (some ⟨g, 0, none⟩) m cap) m ((swpW hs' i (2 * i + 1)).flatMap encW)) := ho2; have HB2 : Hid (Blk w' B #[.slice (some ⟨g, 0, none⟩) m cap] 136) := hb2; have HG2 : Hid (w.grownBy w' (some g)) := gTrans (gTrans hg.out (gNew HBL.out)) hg2; clear ho2 hb2 hg2))
     go_roundw
     case rel => exact ⟨2 * i + 1, swpW hs' i (2 * i + 1), by rw [ec], hcm, HD2, HO2, HB2, HG2⟩
     case measure => simp [intOf]; omega
    ·rw [decide_eq_false hlt] at HL2
     have HL20 : Hid (Calls Try.prog 125 #[.slice (some ⟨g, 0, none⟩) m cap, .int .i64 (2 * (i : Int) + 1), .int .i64 (i : Int)] wr fun e w' => e = .returned (.bool false) ∧ Below wr.heap.size wr w') := HL2.out _ (Below.refl _ _)
     have HH : Hid (HeapW hs' n) := hD.out.1.stop LC.out hlt
     clear hlt LC hr
     go_wp2_with (first
      | (go_at_call 125; refine HL20.out.mono ?_; rintro e wl ⟨rfl, hbl⟩; have HBL : Hid (Below wr.heap.size wr wl) := hbl; have mSw := mS.out wl hbl; clear hbl))
     go_ret
     exact ⟨⟨_, rfl⟩, hs', HH.out, hD.out.2.2.1, hD.out.2.2.2, ownBelow hO.out HBL.out, hB.out.below HBL.out hB.out.lt, gTrans hg.out (gNew HBL.out)⟩
set_option maxRecDepth 100000 in
set_option maxHeartbeats 3200000 in
theorem whPush_any (B base : Nat) (v : Value) (hs : List Ar) (q : Ar) (w : World) (hB : Blk w B #[v] 136) (hown : w.ownsRow base 134 3 v hs.length (hs.flatMap encW)) (hbase : base ≤ w.heap.size) (hn : hs.length ≤ 9000000) (hH : HeapW hs hs.length) :
  Calls Try.prog 70 #[.iface 137 (.pointer (some ⟨B, 0, none⟩)), wayV q] w fun e w' => e = .returned (.tuple #[]) ∧ ∃ v' hs', HeapW hs' hs'.length ∧ hs'.Perm (hs ++ [q]) ∧ Blk w' B #[v'] 136 ∧ w'.ownsRow base 134 3 v' hs'.length (hs'.flatMap encW) ∧ Near w v.ownBlock v' ∧ Turn2 w w' B v.ownBlock := by
 have HP : Hid (Calls Try.prog 129 #[.pointer (some ⟨B, 0, none⟩), wayV q] w fun e w' => e = .returned (.tuple #[]) ∧ ∃ v', Blk w' B #[v'] 136 ∧ w'.ownsRow base 134 3 v' (hs ++ [q]).length ((hs ++ [q]).flatMap encW) ∧ Near w v.ownBlock v' ∧ Turn2 w w' B v.ownBlock) := wPush_any B base v hs q w hB hown hbase (by omega)
 have HU : Hid (UpW (hs ++ [q]) hs.length) := UpW.start hH q
 have HL : Hid ((hs ++ [q]).length = hs.length + 1) := by simp [Hid]
 have mP := methW_push B w
 generalize hs ++ [q] = hq at *
 generalize hs.length = n at *
 clear hB hown hH
 generalize v.ownBlock = r at *
 go_enter Try.func70, Try.ntmps70
 go_wp2_with (first
  | (go_at_call 129; (with_reducible refine HP.out.mono ?_); rintro e w1 ⟨rfl, v1, hb1, ho1, hn1, ht1⟩; obtain ⟨g1, cap1, hv1, _, _, _⟩ := own_someW ho1 (by rw [HL.out]; omega); subst hv1; rw [HL.out] at ho1 hb1 hn1; have HB1 : Hid (Blk w1 B #[.slice (some ⟨g1, 0, none⟩) (n + 1) cap1] 136) := hb1; have HO1 : Hid (w1.ownsRow base 134 3 (.slice (some ⟨g1, 0, none⟩) (n + 1) cap1) (n + 1) (hq.flatMap encW)) := ho1; have HN1 : Hid (Near w r (.slice (some ⟨g1, 0, none⟩) (n + 1) cap1)) := hn1; have HT1 : Hid (Turn2 w w1 B r) := ht1; have mN := methW_len (hb1.cell 0 (v := .slice (some ⟨g1, 0, none⟩) (n + 1) cap1) rfl); clear hb1 ho1 hn1 ht1)
  | (go_at_call 80; (with_reducible refine (wLen_any _ _ _ _).mono ?_); rintro e w2 ⟨rfl, rfl⟩)
  | (go_at_call 86; (with_reducible refine (wUp_any B base g1 (n + 1) cap1 hq n _ HB1.out HO1.out HL.out (by omega) HU.out (by omega)).mono ?_); rintro e w3 ⟨rfl, hs3, hh3, hp3, ho3, hb3, hg3⟩))
 go_end0
 have hl3 : hs3.length = n + 1 := by rw [hp3.length_eq]; exact HL.out
 refine ⟨rfl, _, hs3, by rw [hl3]; exact hh3, hp3, hb3, by rw [hl3]; exact ho3, HN1.out, HT1.out.trans (Turn2.grown hg3 B) ?_⟩
 rcases HN1.out with e | ⟨c, e, hc⟩
 ·exact .inl e
 ·exact .inr ⟨c, e, hc⟩
set_option maxRecDepth 100000 in
set_option maxHeartbeats 3200000 in
theorem whPop_any (B base : Nat) (v : Value) (hs : List Ar) (w : World) (hB : Blk w B #[v] 136) (hown : w.ownsRow base 134 3 v hs.length (hs.flatMap encW)) (h0 : 0 < hs.length) (hn : hs.length ≤ 9000000) (hH : HeapW hs hs.length) :
  Calls Try.prog 72 #[.iface 137 (.pointer (some ⟨B, 0, none⟩))] w fun e w' => ∃ x, e = .returned (wayV x) ∧ ∃ v' hs', HeapW hs' hs'.length ∧ (x :: hs').Perm hs ∧ (∀ y ∈ hs', x.2.2.2 ≤ y.2.2.2) ∧ Blk w' B #[v'] 136 ∧ w'.ownsRow base 134 3 v' hs'.length (hs'.flatMap encW) ∧ v'.ownBlock = v.ownBlock ∧ Turn2 w w' B v.ownBlock := by
 obtain ⟨n, hl⟩ : ∃ n, hs.length = n + 1 := ⟨hs.length - 1, by omega⟩
 rw [hl] at hown
 obtain ⟨g, cap, hv, _, _, _⟩ := own_someW hown (by omega)
 subst hv
 have HLN : Hid (hs.length = n + 1) := hl
 have HH : Hid (HeapW hs hs.length) := hH
 have mN := methW_len (hB.cell 0 (v := .slice (some ⟨g, 0, none⟩) (n + 1) cap) rfl)
 have mS := methW_swap (hB.cell 0 (v := .slice (some ⟨g, 0, none⟩) (n + 1) cap) rfl)
 have HSW : Hid (Calls Try.prog 126 #[.slice (some ⟨g, 0, none⟩) (n + 1) cap, .int .i64 0, .int .i64 (n : Int)] w fun e w' => e = .returned (.tuple #[]) ∧ w'.ownsRow base 134 3 (.slice (some ⟨g, 0, none⟩) (n + 1) cap) (n + 1) ((swpW hs 0 n).flatMap encW) ∧ Blk w' B #[.slice (some ⟨g, 0, none⟩) (n + 1) cap] 136 ∧ w.grownBy w' (some g)) := wkSwap (B := B) hown hB hl (by omega) (i := 0) (j := n) (by omega) (by omega)
 have HD : Hid (DownW (swpW hs 0 n) 0 n) := DownW.start hH hl
 have HLS : Hid ((swpW hs 0 n).length = n + 1) := by show _ = _; rw [swpW_length]; exact hl
 have mP := methW_pop B
 have h9 : n ≤ 9000000 := by omega
 clear hB hown hH hl hn h0
 generalize hsw : swpW hs 0 n = hq at *
 have HSQ : Hid (swpW hs 0 n = hq) := hsw
 clear hsw
 go_enter Try.func72, Try.ntmps72
 go_wp2_with (first
  | (go_at_call 80; (with_reducible refine (wLen_any _ _ _ _).mono ?_); rintro e w2 ⟨rfl, rfl⟩)
  | (go_at_call 126; (with_reducible refine HSW.out.mono ?_); rintro e w1 ⟨rfl, ho1, hb1, hg1⟩; have HO1 : Hid (w1.ownsRow base 134 3 (.slice (some ⟨g, 0, none⟩) (n + 1) cap) (n + 1) (hq.flatMap encW)) := ho1; have HB1 : Hid (Blk w1 B #[.slice (some ⟨g, 0, none⟩) (n + 1) cap] 136) := hb1; have HG1 : Hid (w2.grownBy w1 (some g)) := hg1; clear ho1 hb1 hg1)
  | (go_at_call 87; (with_reducible refine (wDown_any B base g (n + 1) cap n hq _ HB1.out HO1.out HLS.out (by omega) (by omega) HD.out).mono ?_); rintro e w3 ⟨⟨b3, rfl⟩, hs3, hh3, hp3, hd3, ho3, hb3, hg3⟩; have HO3 : Hid (w3.ownsRow base 134 3 (.slice (some ⟨g, 0, none⟩) (n + 1) cap) hs3.length (hs3.flatMap encW)) := (by show World.ownsRow _ _ _ _ _ _ _; rw [hp3.length_eq, HLS.out]; exact ho3); have HB3 : Hid (Blk w3 B #[.slice (some ⟨g, 0, none⟩) (n + 1) cap] 136) := hb3; have HG3 : Hid (w1.grownBy w3 (some g)) := hg3; have HF3 : Hid (HeapW hs3 n ∧ hs3.Perm hq ∧ hs3.drop n = hq.drop n) := ⟨hh3, hp3, hd3⟩; clear hh3 hp3 hd3 ho3 hb3 hg3)
  | (go_at_call 128; (with_reducible refine (wPop_any B base _ hs3 n _ HB3.out HO3.out (by rw [HF3.out.2.1.length_eq, HLS.out]) (by omega)).mono ?_); rintro e w4 ⟨rfl, v4, hb4, ho4, hr4, ht4⟩))
 have hpf := popW_facts HH.out HLN.out (by rw [HSQ.out]; exact HF3.out.2.1) (by rw [HSQ.out]; exact HF3.out.2.2) HF3.out.1
 have hl4 : (hs3.take n).length = n := by rw [List.length_take, HF3.out.2.1.length_eq, HLS.out]; omega
 go_ret
 refine ⟨_, rfl, v4, hs3.take n, by rw [hl4]; exact hpf.2.1, by rw [hpf.1]; exact hpf.2.2.1, by rw [hpf.1]; exact hpf.2.2.2, hb4, by rw [hl4]; exact ho4, hr4, ?_⟩
 exact (Turn2.grown (gTrans HG1.out HG3.out) B).trans ht4 (.inl rfl)
end Go.Proofs.Ytfpibdaedfilaaa.Bw
