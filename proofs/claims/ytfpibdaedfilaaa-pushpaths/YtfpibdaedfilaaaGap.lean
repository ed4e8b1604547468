/- The program: new numbers of the states that are left; arcs led there. -/
import Derived.Test.YtfpibdaedfilaaaGai
import Derived.Test.YtfpibdaedfilaaaGae
import Derived.Test.YtfpibdaedfilaaaGab
import Derived.Deep.DeepCutAuto
namespace Go.Proofs.Ytfpibdaedfilaaa.Pl
theorem kept_prefix (a b : List Bool) {q n : Nat} (h : q ≤ n) : ∃ rest, keptL a b n = keptL a b q ++ rest := by
  induction n with
  | zero => obtain rfl : q = 0 := by omega
            exact ⟨[], by simp⟩
  | succ n ih =>
    by_cases e : q = n + 1
    · subst e; exact ⟨[], by simp⟩
    · obtain ⟨r, hr⟩ := ih (by omega)
      exact ⟨_, by rw [keptL_succ, hr, List.append_assoc]⟩
theorem place_kept {a b : List Bool} {q n : Nat} (h : q < n) (ha : el a q = true) (hb : el b q = true) : placeI (keptL a b n) (q : Int) = ((keptL a b q).length : Int) := by
 obtain ⟨r, hr⟩ := kept_prefix a b (q := q + 1) (n := n) (by omega)
 rw [keptL_succ, ha, hb] at hr
 simp only [Bool.and_self, if_true, List.append_assoc, List.singleton_append] at hr
 have hlt : (keptL a b q).length < (keptL a b n).length := by rw [hr]; simp
 have := placeI_el (keptL_sorted a b n) hlt
 rw [hr] at this
 rw [el_right (Nat.le_refl _), Nat.sub_self, el_zero, ← hr] at this
 exact this
theorem place_left {a b : List Bool} {q n : Nat} (h : ¬ (el a q = true ∧ el b q = true)) : placeI (keptL a b n) (q : Int) = -1 := placeI_not (fun h9 => h (keptL_iff.1 h9).2)
theorem place_ge (ks : List Int) (x : Int) : -1 ≤ placeI ks x := by
 have : ∀ (l : List Int) (i : Nat), -1 ≤ placeL' x i l := fun l => by
  induction l with
  | nil => intro i; simp [placeL']
  | cons k l ih => intro i; rw [placeL']; split; omega; exact ih _
 exact this ks 0
end Go.Proofs.Ytfpibdaedfilaaa.Pl
namespace Go.Proofs.Ytfpibdaedfilaaa.Wt
open Go.ChangeShapes Go.WideShapes Go.ChangeAt Go.RowKit
open Go.Proofs.Ytfpibdaedfilaaa.Pl
set_option linter.unusedVariables false
set_option linter.unusedSimpArgs false
set_option maxRecDepth 100000 in
set_option maxHeartbeats 1600000 in
theorem numbered_any (v1 v2 : Value) (aa bs : List Bool) (n : Nat) (w : World) (h1 : Bools w v1 aa) (h2 : Bools w v2 bs) (hA : aa.length = n) (hB : bs.length = n) (h60 : n ≤ 60) :
  Calls Try.prog 45 #[v1, v2] w fun e w' => ∃ v', e = .returned v' ∧ (∃ ns, Nums w' v' ns ∧ ns.length = n ∧ ∀ j, j < n → el ns j = placeI (keptL aa bs n) (j : Int)) ∧ Below w.heap.size w w' := by
 obtain ⟨xa, ca, hva, hca⟩ := h1.get
 obtain ⟨xb, cb, hvb, hcb⟩ := h2.get
 rw [hA] at hva hca
 rw [hB] at hvb hcb
 have HCA : Hid (∀ j, j < n → ∃ b off, xa = some ⟨b, off, none⟩ ∧ b < w.heap.size ∧ w.cell? ⟨b, off + j, none⟩ = some (.bool (el aa j))) := hca
 have HCB : Hid (∀ j, j < n → ∃ b off, xb = some ⟨b, off, none⟩ ∧ b < w.heap.size ∧ w.cell? ⟨b, off + j, none⟩ = some (.bool (el bs j))) := hcb
 subst hva hvb
 clear h1 h2 hca hcb hA hB
 have hmk := run_nums n (by omega)
 go_enter Try.func45, Try.ntmps45
 go_wp2
 go_loopw [6, 13] (fun s6 i wr => ∃ (q : Nat) (ns : List Int), q ≤ n ∧ s6 = .int .i64 ((keptL aa bs q).length : Int) ∧ i = .int .i64 q ∧ Hid (ns.length = n ∧ ∀ j, j < q → el ns j = placeI (keptL aa bs n) (j : Int)) ∧ Hid (Blk wr w.heap.size (ns.map (Value.int .i64)).toArray 3) ∧ Hid (Below w.heap.size w wr)) (fun _ i _ => n - (intOf i).toNat)
 case atStart => exact ⟨0, List.replicate n (0 : Int), Nat.zero_le _, rfl, rfl, ⟨by simp, fun j hj => absurd hj (Nat.not_lt_zero _)⟩, by (show Blk _ _ _ _); rw [show (List.map (Value.int .i64) (List.replicate n 0)).toArray = Array.replicate n (Value.int .i64 0) from by simp]; exact Blk.made _ _ _, (Below.refl _ _).alloc (Nat.le_refl _) _⟩
 case round =>
  obtain ⟨q, ns, hq, rfl, rfl, hns, hblk, hb⟩ := hrel
  by_cases hqn : q < n
  ·obtain ⟨ba, oa, rfl, hbal, g0⟩ := HCA.out q hqn
   obtain ⟨bb, ob, rfl, hbbl, g1⟩ := HCB.out q hqn
   have g0 := (hb.out.cell (p := ⟨ba, oa + q, none⟩) hbal).trans g0
   have g1 := (hb.out.cell (p := ⟨bb, ob + q, none⟩) hbbl).trans g1
   have hl := hns.out.1
   have y0 := num_cell hblk.out (j := q) (by omega)
   have y1 := hblk.out.fz q
   have HKS := keptL_succ aa bs q
   have hkl := keptL_le aa bs q
   have hq0 : (0 : Int) ≤ (q : Int) := by omega
   have hq1 : (q : Int) < (n : Int) := by omega
   have B1 : Hid (Blk (wr.setCell ⟨w.heap.size, q, none⟩ (.int .i64 (-1))) w.heap.size ((ns.set q (-1)).map (Value.int .i64)).toArray 3) := by have h9 := hblk.out.set q (.int .i64 (-1)); rw [set_num] at h9; exact h9
   have Y1 : Hid (Below w.heap.size w (wr.setCell ⟨w.heap.size, q, none⟩ (.int .i64 (-1)))) := hb.out.setCell (Nat.le_refl _) _
   by_cases hk : el aa q = true ∧ el bs q = true
   ·have HE : Hid ((keptL aa bs (q + 1)).length = (keptL aa bs q).length + 1) := by show _ = _; rw [HKS, hk.1, hk.2]; simp
    have HP : Hid (placeI (keptL aa bs n) (q : Int) = ((keptL aa bs q).length : Int)) := place_kept hqn hk.1 hk.2
    rw [hk.1] at g0
    rw [hk.2] at g1
    clear HKS hk
    generalize (keptL aa bs q).length = K at *
    have B2 : Hid (Blk ((wr.setCell ⟨w.heap.size, q, none⟩ (.int .i64 (-1))).setCell ⟨w.heap.size, q, none⟩ (.int .i64 (K : Int))) w.heap.size (((ns.set q (-1)).set q (K : Int)).map (Value.int .i64)).toArray 3) := by have h9 := B1.out.set q (.int .i64 (K : Int)); rw [set_num] at h9; exact h9
    have Y2 : Hid (Below w.heap.size w ((wr.setCell ⟨w.heap.size, q, none⟩ (.int .i64 (-1))).setCell ⟨w.heap.size, q, none⟩ (.int .i64 (K : Int)))) := Y1.out.setCell (Nat.le_refl _) _
    have HN2 : Hid (((ns.set q (-1)).set q (K : Int)).length = n ∧ ∀ j, j < q + 1 → el ((ns.set q (-1)).set q (K : Int)) j = placeI (keptL aa bs n) (j : Int)) := by
     refine ⟨by simpa using hl, fun j hj => ?_⟩
     rw [el_setN (by simpa [hl] using hqn)]
     by_cases e : j = q
     ·subst e; rw [if_pos rfl, HP.out]
     ·rw [if_neg e, el_setN (by omega), if_neg e]; exact hns.out.2 j (by omega)
    have y2 := num_cell B1.out (j := q) (by simpa [hl] using hqn)
    have y3 := B1.out.fz q
    have hba : ba ≠ w.heap.size := by omega
    have hbb : bb ≠ w.heap.size := by omega
    clear hns hblk hb
    go_wp2
    go_roundw
    case rel => exact ⟨q + 1, _, by omega, by rw [HE.out]; go_num, by go_num, HN2, B2, Y2⟩
    case measure => simp [intOf]; omega
   ·have HE : Hid ((keptL aa bs (q + 1)).length = (keptL aa bs q).length) := by
     show _ = _
     rw [HKS, if_neg (by simpa using hk), List.append_nil]
    have HP : Hid (placeI (keptL aa bs n) (q : Int) = -1) := place_left hk
    have HN2 : Hid ((ns.set q (-1)).length = n ∧ ∀ j, j < q + 1 → el (ns.set q (-1)) j = placeI (keptL aa bs n) (j : Int)) := by
     refine ⟨by simpa using hl, fun j hj => ?_⟩
     rw [el_setN (by omega)]
     by_cases e : j = q
     ·subst e; rw [if_pos rfl, HP.out]
     ·rw [if_neg e]; exact hns.out.2 j (by omega)
    have hba : ba ≠ w.heap.size := by omega
    have hbb : bb ≠ w.heap.size := by omega
    rcases bool_cases' (el aa q) with e1 | e1
    ·rcases bool_cases' (el bs q) with e2 | e2
     ·exact absurd ⟨e1, e2⟩ hk
     ·rw [e1] at g0
      rw [e2] at g1
      clear HKS hk e1 e2 hns hblk hb
      generalize (keptL aa bs q).length = K at *
      go_wp2
      go_roundw
      case rel => exact ⟨q + 1, _, by omega, by rw [HE.out], by go_num, HN2, B1, Y1⟩
      case measure => simp [intOf]; omega
    ·rw [e1] at g0
     clear HKS hk e1 hns hblk hb g1
     generalize (keptL aa bs q).length = K at *
     go_wp2
     go_roundw
     case rel => exact ⟨q + 1, _, by omega, by rw [HE.out], by go_num, HN2, B1, Y1⟩
     case measure => simp [intOf]; omega
  ·have hnl : ¬ (q : Int) < (n : Int) := by omega
   have HNF : Hid (Nums wr (.slice (some ⟨w.heap.size, 0, none⟩) n n) ns ∧ ns.length = n ∧ ∀ j, j < n → el ns j = placeI (keptL aa bs n) (j : Int)) := by
    have h9 := nums_block (cap := n) hblk.out
    rw [hns.out.1] at h9
    exact ⟨h9, hns.out.1, fun j hj => hns.out.2 j (by omega)⟩
   clear hns hblk
   go_wp2
   go_ret
   exact ⟨_, rfl, ⟨ns, HNF.out⟩, hb.out⟩
end Go.Proofs.Ytfpibdaedfilaaa.Wt
namespace Go.Proofs.Ytfpibdaedfilaaa.Wt
open Go.ChangeShapes Go.WideShapes Go.ChangeAt Go.RowKit
open Go.Proofs.Ytfpibdaedfilaaa.Pl
set_option linter.unusedVariables false
set_option linter.unusedSimpArgs false
set_option maxRecDepth 100000 in
set_option maxHeartbeats 1600000 in
theorem redirected_any (va vn : Value) (ar : List Ar) (ks ns : List Int) (n : Nat) (w : World) (hA : Arcs w va ar) (hL32 : ar.length * 32 ≤ 140737488351232) (hN : Nums w vn ns) (hl : ns.length = n) (hns : ∀ j, j < n → el ns j = placeI ks (j : Int)) (hto : ∀ a ∈ ar, ∃ t : Nat, a.2.2.2 = (t : Int) ∧ t < n) :
    Calls Try.prog 68 #[va, vn] w fun e w' => ∃ v', e = .returned v' ∧ w'.ownsRow w.heap.size 58 4 v' (trimA ks ar).length ((trimA ks ar).flatMap encA) ∧ Below w.heap.size w w' := by
  obtain ⟨i0, hi0, hz0, hz1, hz2⟩ := info_parts infoArc
  obtain ⟨a2, cap2, rfl, hga⟩ := hA.get
  obtain ⟨xn, cn, rfl, hcn⟩ := hN.get
  rw [hl] at hcn ⊢
  have HGA : Hid (∀ j, j < ar.length → ∃ b off, a2 = some ⟨b, off, none⟩ ∧ b < w.heap.size ∧ w.cell? ⟨b, off + j * 4, none⟩ = some (.int .i64 (el ar j).1) ∧ w.cell? ⟨b, off + j * 4 + 1, none⟩ = some (.int .i64 (el ar j).2.1) ∧ w.cell? ⟨b, off + j * 4 + 2, none⟩ = some (.int .i64 (el ar j).2.2.1) ∧ w.cell? ⟨b, off + j * 4 + 3, none⟩ = some (.int .i64 (el ar j).2.2.2)) := hga
  have HCN : Hid (∀ j, j < n → ∃ b off, xn = some ⟨b, off, none⟩ ∧ b < w.heap.size ∧ w.cell? ⟨b, off + j, none⟩ = some (.int .i64 (el ns j))) := hcn
  have HNS : Hid (∀ j, j < n → el ns j = placeI ks (j : Int)) := hns
  have HTO : Hid (∀ a ∈ ar, ∃ t : Nat, a.2.2.2 = (t : Int) ∧ t < n) := hto
  clear hA hN hga hcn hns hto hl
  generalize hL : ar.length = L at *
  have HL : Hid (ar.length = L) := hL
  clear hL
  go_enter Try.func68, Try.ntmps68
  go_wp2
  go_loopw [5, 10] (fun s5 i wr => ∃ (j : Nat) (vr : Value), j ≤ L ∧ vr = s5 ∧ i = .int .i64 j ∧ Hid (wr.ownsRow w.heap.size 58 4 vr (trimA ks (ar.take j)).length ((trimA ks (ar.take j)).flatMap encA)) ∧ Hid (Below w.heap.size w wr)) (fun _ i _ => L - (intOf i).toNat)
  case atStart => exact ⟨0, _, Nat.zero_le _, rfl, rfl, World.ownsRow_nil _ _ _ _, Below.refl _ _⟩
  case round =>
    obtain ⟨j, vr, hj, rfl, rfl, hrw, hb⟩ := hrel
    by_cases hjL : j < L
    · obtain ⟨b3, off3, rfl, hb3l, e0, e1, e2, e3⟩ := HGA.out j hjL
      have e0 := (hb.out.cell (p := ⟨b3, off3 + j * 4, none⟩) hb3l).trans e0
      have e1 := (hb.out.cell (p := ⟨b3, off3 + j * 4 + 1, none⟩) hb3l).trans e1
      have e2 := (hb.out.cell (p := ⟨b3, off3 + j * 4 + 2, none⟩) hb3l).trans e2
      have e3 := (hb.out.cell (p := ⟨b3, off3 + j * 4 + 3, none⟩) hb3l).trans e3
      have HT := trimA_take (ks := ks) (l := ar) (k := j) (by rw [HL.out]; exact hjL)
      have htl : Hid ((trimA ks (ar.take j)).length ≤ L) := by have h9 := trimA_le ks (ar.take j); rw [List.length_take] at h9; show _ ≤ _; omega
      obtain ⟨t, ht, htn⟩ := HTO.out (el ar j) (el_mem (by rw [HL.out]; exact hjL))
      have hj0 : (0 : Int) ≤ (j : Int) := by omega
      have hj1 : (j : Int) < (L : Int) := by omega
      have ht0 : (0 : Int) ≤ (t : Int) := by omega
      have ht1 : (t : Int) < (n : Int) := by omega
      obtain ⟨bn, on, rfl, hbnl, m0⟩ := HCN.out t htn
      have m0 := (hb.out.cell (p := ⟨bn, on + t, none⟩) hbnl).trans m0
      rw [HNS.out t htn] at m0
      generalize trimA ks (ar.take j) = tl at *
      unfold turnA at HT
      generalize el ar j = c at *
      rw [ht] at e3 HT
      have hge := place_ge ks (t : Int)
      generalize placeI ks (t : Int) = pl at *
      generalize hx0 : c.1 = x0 at *
      generalize hx1 : c.2.1 = x1 at *
      generalize hx2 : c.2.2.1 = x2 at *
      clear hx0 hx1 hx2 ht
      have hsz := hb.out.size
      have hbw : bn < wr.heap.size := by omega
      have hbw2 : bn ≠ wr.heap.size := by omega
      by_cases hp0 : 0 ≤ pl
      · have HE : Hid (trimA ks (ar.take (j + 1)) = tl ++ [(x0, x1, x2, pl)]) := by show _ = _; rw [HT, if_pos hp0]
        have hpb : (pl == -1) = false := by have h9 : pl ≠ -1 := by omega
                                            simpa using h9
        have HD : Hid ((wr.alloc (.cells #[.int .i64 x0, .int .i64 x1, .int .i64 x2, .int .i64 pl] 58)).ownsRow w.heap.size 58 4 vr tl.length (tl.flatMap encA)) := hrw.out.alloc _
        have HDB : Hid (Below w.heap.size w (wr.alloc (.cells #[.int .i64 x0, .int .i64 x1, .int .i64 x2, .int .i64 pl] 58))) := hb.out.alloc hb.out.size _
        clear HT hrw
        go_wp2_with (first
          | (at_builtin; refine wpList_append_rows encA_len (by decide) encA_one rfl _ _ 54 rfl w.heap.size 58 i0 _ 32 Try.underlying54 hi0 hz0 hz1 hz2 rfl _ tl.length (tl.flatMap encA) rfl (HD.out.alloc _) _ [(x0, x1, x2, pl)] rfl (by have h9 := oneRow (enc := encA) (wr.alloc (.cells #[.int .i64 x0, .int .i64 x1, .int .i64 x2, .int .i64 pl] 58)) (x0, x1, x2, pl) rfl 58; simp only [World.size_alloc] at h9; exact h9) (by have := htl.out; simp; unfold maxLen; omega) (by have := htl.out; simp; omega) (by have := HDB.out.size; simp at this ⊢; omega) ?_; intro v4 w4 ho4 hg4; obtain ⟨HO4, HB4, HZ4⟩ := snocFacts HD.out HDB.out.size ho4 hg4; clear ho4 hg4))
        go_roundw
        case rel => exact ⟨j + 1, _, by omega, rfl, by go_num, by rw [HE.out]; exact HO4, HDB.out.trans HB4.out⟩
        case measure => simp [intOf]; omega
      · have HE : Hid (trimA ks (ar.take (j + 1)) = tl) := by show _ = _; rw [HT, if_neg hp0, List.append_nil]
        have hpe : pl = -1 := by omega
        subst hpe
        have HD : Hid ((wr.alloc (.cells #[.int .i64 x0, .int .i64 x1, .int .i64 x2, .int .i64 (t : Int)] 58)).ownsRow w.heap.size 58 4 vr tl.length (tl.flatMap encA)) := hrw.out.alloc _
        have HDB : Hid (Below w.heap.size w (wr.alloc (.cells #[.int .i64 x0, .int .i64 x1, .int .i64 x2, .int .i64 (t : Int)] 58))) := hb.out.alloc hb.out.size _
        clear HT hrw hp0 hge
        go_wp2
        go_roundw
        case rel => exact ⟨j + 1, _, by omega, rfl, by go_num, by rw [HE.out]; exact HD, HDB⟩
        case measure => simp [intOf]; omega
    · have hnl : ¬ (j : Int) < (L : Int) := by omega
      have HO : Hid (wr.ownsRow w.heap.size 58 4 vr (trimA ks ar).length ((trimA ks ar).flatMap encA)) := by
        have h9 := hrw.out
        rw [show j = ar.length by rw [HL.out]; omega, List.take_length] at h9
        exact h9
      go_wp2
      go_ret
      exact ⟨_, rfl, HO.out, hb.out⟩
end Go.Proofs.Ytfpibdaedfilaaa.Wt
