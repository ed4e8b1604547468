/- The program: the arcs that are left, led to the new numbers. -/
import Derived.Test.YtfajkomajbhphaaSu
namespace Go.Proofs.Ytfajkomajbhphaa.Wt
open Go.ChangeShapes Go.WideShapes Go.ChangeAt Go.RowKit
open Go.Proofs.Ytfajkomajbhphaa.Pl
set_option linter.unusedVariables false
set_option linter.unusedSimpArgs false
set_option maxRecDepth 100000 in
set_option maxHeartbeats 1600000 in
theorem redirected_any (va vn : Value) (ar : List Ar) (ks ns : List Int) (n : Nat) (w : World) (hA : Arcs w va ar) (hL32 : ar.length * 32 ≤ 140737488351232) (hN : Nums w vn ns) (hl : ns.length = n) (hns : ∀ j, j < n → el ns j = placeI ks (j : Int)) (hto : ∀ a ∈ ar, ∃ t : Nat, a.2.2.2 = (t : Int) ∧ t < n) :
    Calls Try.prog 58 #[va, vn] w fun e w' => ∃ v', e = .returned v' ∧ w'.ownsRow w.heap.size 60 4 v' (trimA ks ar).length ((trimA ks ar).flatMap encA) ∧ Below w.heap.size w w' := by
  obtain ⟨i0, hi0, hz0, hz1, hz2⟩ := info_parts infoArc
  obtain ⟨a2, cap2, rfl, hga⟩ := hA.get
  obtain ⟨xn, cn, rfl, hcn⟩ := hN.get
  rw [hl] at hcn ⊢
  have HGA : Hid (∀ j, j < ar.length → ∃ b off, a2 = some ⟨b, off, none⟩ ∧ b < w.heap.size ∧ w.cell? ⟨b, off + j * 4, none⟩ = some (.int .i64 (el ar j).1) ∧ w.cell? ⟨b, off + j * 4 + 1, none⟩ = some (.int .i64 (el ar j).2.1) ∧ w.cell? ⟨b, off + j * 4 + 2, none⟩ = some (.int .i64 (el ar j).2.2.1) ∧ w.cell? ⟨b, off + j * 4 + 3, none⟩ = some (.int .i64 (el ar j).2.2.2)) := hga
  have HCN : Hid (∀ j, j < n → ∃ b off, xn = some ⟨b, off, none⟩ ∧ b < w.heap.size ∧ w.cell? ⟨b, off + j, none⟩ = some (.int .i64 (el ns j))) := hcn
  have HNS : Hid (∀ j, j < n → el ns j = placeI ks (j : Int)) := hns
  have HTO : Hid (∀ a ∈ ar, ∃ t : Nat, a.2.2.2 = (t : Int) ∧ t < n) := hto
  clear hA hN hga hcn hns hto hl
  generalize hL : ar.length = L at *
  have HL : Hid (ar.length = L) := hL
  clear hL
  go_enter Try.func58, Try.ntmps58
  go_wp2
  go_loopw [5, 10] (fun s5 i wr => ∃ (j : Nat) (vr : Value), j ≤ L ∧ vr = s5 ∧ i = .int .i64 j ∧ Hid (wr.ownsRow w.heap.size 60 4 vr (trimA ks (ar.take j)).length ((trimA ks (ar.take j)).flatMap encA)) ∧ Hid (Below w.heap.size w wr)) (fun _ i _ => L - (intOf i).toNat)
  case atStart => exact ⟨0, _, Nat.zero_le _, rfl, rfl, World.ownsRow_nil _ _ _ _, Below.refl _ _⟩
  case round =>
    obtain ⟨j, vr, hj, rfl, rfl, hrw, hb⟩ := hrel
    by_cases hjL : j < L
    · obtain ⟨b3, off3, rfl, hb3l, e0, e1, e2, e3⟩ := HGA.out j hjL
      have e0 := (hb.out.cell (p := ⟨b3, off3 + j * 4, none⟩) hb3l).trans e0
      have e1 := (hb.out.cell (p := ⟨b3, off3 + j * 4 + 1, none⟩) hb3l).trans e1
      have e2 := (hb.out.cell (p := ⟨b3, off3 + j * 4 + 2, none⟩) hb3l).trans e2
      have e3 := (hb.out.cell (p := ⟨b3, off3 + j * 4 + 3, none⟩) hb3l).trans e3
      have HT := trimA_take (ks := ks) (l := ar) (k := j) (by rw [HL.out]; exact hjL)
      have htl : Hid ((trimA ks (ar.take j)).length ≤ L) := by have h9 := trimA_le ks (ar.take j); rw [List.length_take] at h9; show _ ≤ _; omega
      obtain ⟨t, ht, htn⟩ := HTO.out (el ar j) (el_mem (by rw [HL.out]; exact hjL))
      have hj0 : (0 : Int) ≤ (j : Int) := by omega
      have hj1 : (j : Int) < (L : Int) := by omega
      have ht0 : (0 : Int) ≤ (t : Int) := by omega
      have ht1 : (t : Int) < (n : Int) := by omega
      obtain ⟨bn, on, rfl, hbnl, m0⟩ := HCN.out t htn
      have m0 := (hb.out.cell (p := ⟨bn, on + t, none⟩) hbnl).trans m0
      rw [HNS.out t htn] at m0
      generalize trimA ks (ar.take j) = tl at *
      unfold turnA at HT
      generalize el ar j = c at *
      rw [ht] at e3 HT
      have hge := place_ge ks (t : Int)
      generalize placeI ks (t : Int) = pl at *
      generalize hx0 : c.1 = x0 at *
      generalize hx1 : c.2.1 = x1 at *
      generalize hx2 : c.2.2.1 = x2 at *
      clear hx0 hx1 hx2 ht
      have hsz := hb.out.size
      have hbw : bn < wr.heap.size := by omega
      have hbw2 : bn ≠ wr.heap.size := by omega
      by_cases hp0 : 0 ≤ pl
      · have HE : Hid (trimA ks (ar.take (j + 1)) = tl ++ [(x0, x1, x2, pl)]) := by show _ = _; rw [HT, if_pos hp0]
        have hpb : (pl == -1) = false := by have h9 : pl ≠ -1 := by omega
                                            simpa using h9
        have HD : Hid ((wr.alloc (.cells #[.int .i64 x0, .int .i64 x1, .int .i64 x2, .int .i64 pl] 60)).ownsRow w.heap.size 60 4 vr tl.length (tl.flatMap encA)) := hrw.out.alloc _
        have HDB : Hid (Below w.heap.size w (wr.alloc (.cells #[.int .i64 x0, .int .i64 x1, .int .i64 x2, .int .i64 pl] 60))) := hb.out.alloc hb.out.size _
        clear HT hrw
        go_wp2_with (first
          | (at_builtin; refine wpList_append_rows encA_len (by decide) encA_one rfl _ _ 42 rfl w.heap.size 60 i0 _ 32 Try.underlying42 hi0 hz0 hz1 hz2 rfl _ tl.length (tl.flatMap encA) rfl (HD.out.alloc _) _ [(x0, x1, x2, pl)] rfl (by have h9 := oneRow (enc := encA) (wr.alloc (.cells #[.int .i64 x0, .int .i64 x1, .int .i64 x2, .int .i64 pl] 60)) (x0, x1, x2, pl) rfl 60; simp only [World.size_alloc] at h9; exact h9) (by have := htl.out; simp; unfold maxLen; omega) (by have := htl.out; simp; omega) (by have := HDB.out.size; simp at this ⊢; omega) ?_; intro v4 w4 ho4 hg4; obtain ⟨HO4, HB4, HZ4⟩ := snocFacts HD.out HDB.out.size ho4 hg4; clear ho4 hg4))
        go_roundw
        case rel => exact ⟨j + 1, _, by omega, rfl, by go_num, by rw [HE.out]; exact HO4, HDB.out.trans HB4.out⟩
        case measure => simp [intOf]; omega
      · have HE : Hid (trimA ks (ar.take (j + 1)) = tl) := by show _ = _; rw [HT, if_neg hp0, List.append_nil]
        have hpe : pl = -1 := by omega
        subst hpe
        have HD : Hid ((wr.alloc (.cells #[.int .i64 x0, .int .i64 x1, .int .i64 x2, .int .i64 (t : Int)] 60)).ownsRow w.heap.size 60 4 vr tl.length (tl.flatMap encA)) := hrw.out.alloc _
        have HDB : Hid (Below w.heap.size w (wr.alloc (.cells #[.int .i64 x0, .int .i64 x1, .int .i64 x2, .int .i64 (t : Int)] 60))) := hb.out.alloc hb.out.size _
        clear HT hrw hp0 hge
        go_wp2
        go_roundw
        case rel => exact ⟨j + 1, _, by omega, rfl, by go_num, by rw [HE.out]; exact HD, HDB⟩
        case measure => simp [intOf]; omega
    · have hnl : ¬ (j : Int) < (L : Int) := by omega
      have HO : Hid (wr.ownsRow w.heap.size 60 4 vr (trimA ks ar).length ((trimA ks ar).flatMap encA)) := by
        have h9 := hrw.out
        rw [show j = ar.length by rw [HL.out]; omega, List.take_length] at h9
        exact h9
      go_wp2
      go_ret
      exact ⟨_, rfl, HO.out, hb.out⟩
end Go.Proofs.Ytfajkomajbhphaa.Wt
