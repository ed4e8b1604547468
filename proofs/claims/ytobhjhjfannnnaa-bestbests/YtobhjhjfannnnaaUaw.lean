/- The reference: how few arcs the best paths have. -/
import Derived.Test.YtobhjhjfannnnaaUan
import Derived.Test.YtobhjhjfannnnaaUag
import Derived.Test.YtobhjhjfannnnaaUac
import Derived.Test.YtobhjhjfannnnaaUaf
import Derived.BigQuiet
import Derived.Deep.DeepCutAuto
namespace Go.Proofs.Ytobhjhjfannnnaa.Wt
open Go.ChangeShapes Go.WideShapes Go.ChangeAt Go.RowKit
open Go.Proofs.Ytobhjhjfannnnaa.Pl
set_option linter.unusedVariables false
set_option linter.unusedSimpArgs false
theorem below_drewI {B : Nat} {w w' : World} (h : Below B w w') (n : Nat) : Below B w (w'.drewN n) := ⟨h.os, h.tape, h.output, h.size, h.block⟩
theorem Blk.putN {w : World} {G : Nat} {ls : List Int} {t : TypeId} (h : Blk w G (ls.map (Value.int .i64)).toArray t) (q : Nat) (x : Int) : Blk (w.setCell ⟨G, q, none⟩ (.int .i64 x)) G ((ls.set q x).map (Value.int .i64)).toArray t := by
 have h9 := h.set q (.int .i64 x)
 rw [set_num] at h9
 exact h9
set_option maxRecDepth 100000 in
set_option maxHeartbeats 12800000 in
theorem shortest_any (z : Int) (l : List St) (a : Option Addr) (cap : Nat) (vf : Value) (fr : List Int) (w : World) (h : Mach w (.agg #[.int .i64 z, .slice a l.length cap]) (z, l)) (hr : faultM (z, l) = 0) (hf : Nums w vf fr) (hfl : fr.length = l.length) (hfr : ∀ q, q < l.length → 0 ≤ el fr q ∧ el fr q ≤ 1000000001) :
  Calls Try.prog 30 #[.agg #[.int .i64 z, .slice a l.length cap], vf] w fun e w' => ∃ v ls, e = .returned v ∧ (LnT l fr 1152921504606846976 ls ∧ LnLe l fr l.length ls) ∧ Nums w' v ls ∧ Below w.heap.size w w' := by
 have h60 : l.length ≤ 60 := (right_size hr).1
 have HNU : Hid (∀ q, q < l.length → 0 ≤ (el l q).1 ∧ (el l q).1 ≤ 1000000001 ∧ (el l q).2.length ≤ 400 ∧ ∀ i, i < (el l q).2.length → 0 ≤ (el (el l q).2 i).2.2.1 ∧ (el (el l q).2 i).2.2.1 ≤ 1000000000 ∧ ∃ t : Nat, (el (el l q).2 i).2.2.2 = (t : Int) ∧ t < l.length) := fun q hq => ⟨(right_nums hr hq).1, (right_nums hr hq).2.1, (right_states hr q hq).2.1, (right_nums hr hq).2.2⟩
 obtain ⟨vs', hvs, hS⟩ := h
 simp only [Value.agg.injEq, Array.mk.injEq, List.cons.injEq, and_true, true_and] at hvs
 subst hvs
 obtain ⟨a', cap', hsl, hc⟩ := hS.get
 simp only [Value.slice.injEq, true_and] at hsl
 obtain ⟨rfl, rfl⟩ := hsl
 obtain ⟨fa, fc, rfl, hfc⟩ := hf.get
 rw [hfl]
 rw [hfl] at hfc
 have HC : Hid (∀ j, j < l.length → ∃ b off va, a = some ⟨b, off, none⟩ ∧ b < w.heap.size ∧ w.cell? ⟨b, off + j * 2, none⟩ = some (.int .i64 (el l j).1) ∧ w.cell? ⟨b, off + j * 2 + 1, none⟩ = some va ∧ Arcs w va (el l j).2) := hc
 have HFC : Hid (∀ j, j < l.length → ∃ b off, fa = some ⟨b, off, none⟩ ∧ b < w.heap.size ∧ w.cell? ⟨b, off + j, none⟩ = some (.int .i64 (el fr j))) := hfc
 have HFR := hidP hfr
 have HST : Hid (∀ ls : List Int, ls.length = l.length → (∀ p, p < l.length → el ls p = if (el fr p ≠ 1000000001 ∧ (el l p).1 = el fr p) then 0 else 1152921504606846976) → LnT l fr 1152921504606846976 ls ∧ LnLe l fr 0 ls) := fun ls h1 h2 => by
  have h3 := LnT.start (l := l) (fr := fr) (N := 1152921504606846976) (by omega) (fun p => decide (el fr p ≠ 1000000001 ∧ (el l p).1 = el fr p)) (fun q hq => by simp [TgN])
  have e : ls = (List.range l.length).map fun q => if decide (el fr q ≠ 1000000001 ∧ (el l q).1 = el fr q) = true then (0 : Int) else 1152921504606846976 := by
   refine el_ext (by simp [h1]) fun j hj => ?_
   rw [h1] at hj
   rw [el_range_map _ hj, h2 j hj]
   simp only [decide_eq_true_eq]
  rw [e]; exact h3
 have HSR : Hid (∀ r ls, LnLe l fr r ls → LnTo l fr r 0 0 ls) := fun r ls h => LnTo.start h
 have HRW : Hid (∀ r q ls, LnTo l fr r q (el l q).2.length ls → LnTo l fr r (q + 1) 0 ls) := fun r q ls h => h.row (Nat.le_refl _)
 have HRD : Hid (∀ r ls, LnTo l fr r l.length 0 ls → LnLe l fr (r + 1) ls) := fun r ls h => h.round (Nat.le_refl _)
 have HKP : Hid (∀ (r q i t : Nat) ls, LnTo l fr r q i ls → LnT l fr 1152921504606846976 ls → r ≤ 60 → q < l.length → (el (el l q).2 i).2.2.2 = (t : Int) → t < l.length → (TgA fr q (el (el l q).2 i) → el ls t < 1152921504606846976 → el ls q ≤ el ls t + 1) → LnTo l fr r q (i + 1) ls) := fun r q i t ls h1 h2 h3 h4 h5 h6 h7 => h1.keep h2 (by omega) h4 h5 h6 h7
 have HPT : Hid (∀ (r q i t : Nat) ls, LnTo l fr r q i ls → LnT l fr 1152921504606846976 ls → r ≤ 60 → q < l.length → i < (el l q).2.length → (el (el l q).2 i).2.2.2 = (t : Int) → t < l.length → TgA fr q (el (el l q).2 i) → el ls t < 1152921504606846976 → el ls t + 1 < el ls q → LnT l fr 1152921504606846976 (ls.set q (el ls t + 1)) ∧ LnTo l fr r q (i + 1) (ls.set q (el ls t + 1))) := fun r q i t ls h1 h2 h3 h4 h5 h6 h7 h8 h9 h10 => h1.put h2 (by omega) h4 h5 h6 h7 h8 h9 h10
 clear hS hc hr hf hfc hfr hfl
 generalize hN : l.length = N at *
 have HN := hidP hN
 clear hN
 have hmk := run_nums N (by omega)
 have KM0 := hidP ((Blk.made w #[.int .i64 z, .slice a N cap] 24).alloc (.cells (Array.replicate N (Value.int .i64 0)) 3))
 have TB0 : Hid (Blk ((w.alloc (.cells #[.int .i64 z, .slice a N cap] 24)).alloc (.cells (Array.replicate N (Value.int .i64 0)) 3)) (w.heap.size + 1) ((List.replicate N (0 : Int)).map (Value.int .i64)).toArray 3) := by
  have h9 := Blk.made (w.alloc (.cells #[.int .i64 z, .slice a N cap] 24)) (Array.replicate N (Value.int .i64 0)) 3
  rw [World.size_alloc] at h9
  show Blk _ _ _ _
  rw [show ((List.replicate N (0 : Int)).map (Value.int .i64)).toArray = Array.replicate N (Value.int .i64 0) from by simp]
  exact h9
 have BB0 : Hid (Below w.heap.size w ((w.alloc (.cells #[.int .i64 z, .slice a N cap] 24)).alloc (.cells (Array.replicate N (Value.int .i64 0)) 3))) := ((Below.refl _ _).alloc (Nat.le_refl _) _).alloc (by simp) _
 go_enter Try.func30, Try.ntmps30
 go_upto_region 3 with fail
 generalize ((w.alloc (.cells #[.int .i64 z, .slice a N cap] 24)).alloc (.cells (Array.replicate N (Value.int .i64 0)) 3)) = w1 at *
 clear hmk
 go_wp2
 go_loopw [7] (fun s7 wr => ∃ (q : Nat) (ls : List Int), s7 = .int .i64 q ∧ q ≤ N ∧ Hid (ls.length = N ∧ ∀ p, p < q → el ls p = if (el fr p ≠ 1000000001 ∧ (el l p).1 = el fr p) then 0 else 1152921504606846976) ∧ Hid (Blk wr (w.heap.size + 1) (ls.map (Value.int .i64)).toArray 3) ∧ Hid (Blk wr w.heap.size #[.int .i64 z, .slice a N cap] 24) ∧ Hid (Below w.heap.size w wr)) (fun s7 _ => N - (intOf s7).toNat)
 case atStart => exact ⟨0, List.replicate N 0, by go_num, Nat.zero_le _, ⟨List.length_replicate, fun p hp => absurd hp (Nat.not_lt_zero _)⟩, TB0, KM0, BB0⟩
 case round =>
  clear TB0 KM0 BB0
  obtain ⟨q, ls, rfl, hq, hL, hT, hM, hb⟩ := hrel
  by_cases hqN : q < N
  ·have hq0 : (0 : Int) ≤ (q : Int) := by omega
   have hq1 : (q : Int) < (N : Int) := by omega
   obtain ⟨b, off, va, rfl, hbl, s0, s1, sAr⟩ := HC.out q hqN
   obtain ⟨fb, fo, rfl, hfb, u0⟩ := HFC.out q hqN
   have hM2 := hidP (hM.out.setO ⟨w.heap.size + 1, q, none⟩ (.int .i64 1152921504606846976) (by show w.heap.size ≠ w.heap.size + 1; omega))
   have hT2 := hidP (hT.out.putN q 1152921504606846976)
   have hb2 := hidP (hb.out.setCell (p := ⟨w.heap.size + 1, q, none⟩) (Nat.le_succ _) (.int .i64 1152921504606846976))
   have c0 := num_cell hT.out (j := q) (by rw [hL.out.1]; exact hqN)
   have c1 := hT.out.fz q
   have HLs : Hid (∀ x : Int, (x = if (el fr q ≠ 1000000001 ∧ (el l q).1 = el fr q) then 0 else 1152921504606846976) → ((ls.set q 1152921504606846976).set q x).length = N ∧ ∀ p, p < q + 1 → el ((ls.set q 1152921504606846976).set q x) p = if (el fr p ≠ 1000000001 ∧ (el l p).1 = el fr p) then 0 else 1152921504606846976) := fun x hx => by
    rw [List.set_set]
    refine ⟨by rw [List.length_set]; exact hL.out.1, fun p hp => ?_⟩
    rw [el_setN (by rw [hL.out.1]; exact hqN)]
    split
    ·rename_i e; rw [e]; exact hx
    ·exact hL.out.2 p (by omega)
   clear sAr s1
   go_upto_region 7 with fail
   generalize wr.setCell ⟨w.heap.size + 1, q, none⟩ (.int .i64 1152921504606846976) = w3 at *
   clear c0 c1 hT hM hb
   have f0 := (hb2.out.cell (p := ⟨b, off + q * 2, none⟩) hbl).trans s0
   have f1 := (hb2.out.cell (p := ⟨fb, fo + q, none⟩) hfb).trans u0
   have d1 := hM2.out.cell 1 (v := .slice (some ⟨b, off, none⟩) N cap) rfl
   have HLS2 : Hid ((ls.set q 1152921504606846976).length = N) := by (show _ = _); rw [List.length_set]; exact hL.out.1
   have HE2 : Hid (el (ls.set q 1152921504606846976) q = 1152921504606846976) := by (show _ = _); rw [el_setN (by rw [hL.out.1]; exact hqN), if_pos rfl]
   generalize ls.set q 1152921504606846976 = ls2 at *
   have t0 := num_cell hT2.out (j := q) (by rw [HLS2.out]; exact hqN)
   have t1 := hT2.out.fz q
   have hT3 := hidP (hT2.out.putN q 0)
   have hM3 := hidP (hM2.out.setO ⟨w.heap.size + 1, q, none⟩ (.int .i64 0) (by show w.heap.size ≠ w.heap.size + 1; omega))
   have hb3 := hidP (hb2.out.setCell (p := ⟨w.heap.size + 1, q, none⟩) (Nat.le_succ _) (.int .i64 0))
   have HLK : Hid (ls2.set q (el ls2 q) = ls2) := by (show _ = _); rw [el_get (by rw [HLS2.out]; exact hqN), List.set_getElem_self]
   have HSM : Hid (ls2.set q 1152921504606846976 = ls2) := by (show _ = _); rw [← HE2.out]; exact HLK.out
   have HT4 : Hid (∀ m, Blk (World.setCell (w3.drewN m) ⟨w.heap.size + 1, q, none⟩ (.int .i64 0)) (w.heap.size + 1) ((ls2.set q 0).map (Value.int .i64)).toArray 3) := fun m => (hT2.out.drewN m).putN q 0
   have HM4 : Hid (∀ m, Blk (World.setCell (w3.drewN m) ⟨w.heap.size + 1, q, none⟩ (.int .i64 0)) w.heap.size #[.int .i64 z, .slice (some ⟨b, off, none⟩) N cap] 24) := fun m => (hM2.out.drewN m).setO _ _ (by show w.heap.size ≠ w.heap.size + 1; omega)
   have HB4 : Hid (∀ m, Below w.heap.size w (World.setCell (w3.drewN m) ⟨w.heap.size + 1, q, none⟩ (.int .i64 0))) := fun m => (below_drewI hb2.out m).setCell (p := ⟨w.heap.size + 1, q, none⟩) (Nat.le_succ _) _
   clear s0 u0 hT3 hM3 hb3 HLK
   generalize hx : el fr q = x at *
   generalize (el l q).1 = fin at *
   clear hx
   by_cases e0 : x = 1000000001
   ·have b0 : (x != 1000000001) = false := by simp [e0]
    have HX := hidP (HLs.out 1152921504606846976 (by rw [if_neg (fun g => g.1 e0)]))
    clear e0 HLs
    go_quiet (fail)
    go_wp2
    go_roundw
    case rel => exact ⟨q + 1, ls2, by go_num, by omega, by (have h9 := HX.out); rw [HSM.out] at h9; exact h9, hT2.out.drewN _, hM2.out.drewN _, below_drewI hb2.out _⟩
    case measure => simp [intOf]; omega
   ·have b0 : (x != 1000000001) = true := by simp [e0]
    by_cases e1 : fin = x
    ·have b1 : (fin == x) = true := by simp [e1]
     have HX := hidP (HLs.out 0 (by rw [if_pos ⟨e0, e1⟩]))
     clear e0 e1 HLs
     go_quiet (fail)
     go_wp2
     go_roundw
     case rel => exact ⟨q + 1, ls2.set q 0, by go_num, by omega, HX.out, HT4.out _, HM4.out _, HB4.out _⟩
     case measure => simp [intOf]; omega
    ·have b1 : (fin == x) = false := by simp [e1]
     have HX := hidP (HLs.out 1152921504606846976 (by rw [if_neg (fun g => e1 g.2)]))
     clear e0 e1 HLs
     go_quiet (fail)
     go_wp2
     go_roundw
     case rel => exact ⟨q + 1, ls2, by go_num, by omega, by (have h9 := HX.out); rw [HSM.out] at h9; exact h9, hT2.out.drewN _, hM2.out.drewN _, below_drewI hb2.out _⟩
     case measure => simp [intOf]; omega
  ·have hq1 : ¬ (q : Int) < (N : Int) := by omega
   have HS0 : Hid (LnT l fr 1152921504606846976 ls ∧ LnLe l fr 0 ls) := HST.out ls hL.out.1 fun p hp => hL.out.2 p (by omega)
   clear HST hL
   go_wp2
   go_loopw [8] (fun s8 wr => ∃ (r : Nat) (ls : List Int), s8 = .int .i64 r ∧ r ≤ N ∧ Hid (LnT l fr 1152921504606846976 ls ∧ LnLe l fr r ls) ∧ Hid (Blk wr (w.heap.size + 1) (ls.map (Value.int .i64)).toArray 3) ∧ Hid (Blk wr w.heap.size #[.int .i64 z, .slice a N cap] 24) ∧ Hid (Below w.heap.size w wr)) (fun s8 _ => N - (intOf s8).toNat)
   case atStart => exact ⟨0, ls, by go_num, Nat.zero_le _, HS0, hT, hM, hb⟩
   case round =>
    clear HS0 hT hM hb
    obtain ⟨r, ls, rfl, hrN, hI, hT, hM, hb⟩ := hrel
    by_cases hrl : r < N
    ·have hr1 : (r : Int) < (N : Int) := by omega
     have HI2 : Hid (LnT l fr 1152921504606846976 ls ∧ LnTo l fr r 0 0 ls) := ⟨hI.out.1, HSR.out r ls hI.out.2⟩
     go_wp2
     go_loopw [9] (fun s9 wr => ∃ (q : Nat) (ls : List Int), s9 = .int .i64 q ∧ q ≤ N ∧ Hid (LnT l fr 1152921504606846976 ls ∧ LnTo l fr r q 0 ls) ∧ Hid (Blk wr (w.heap.size + 1) (ls.map (Value.int .i64)).toArray 3) ∧ Hid (Blk wr w.heap.size #[.int .i64 z, .slice a N cap] 24) ∧ Hid (Below w.heap.size w wr)) (fun s9 _ => N - (intOf s9).toNat)
     case atStart => exact ⟨0, ls, by go_num, Nat.zero_le _, HI2, hT, hM, hb⟩
     case round =>
      clear HI2 hI hT hM hb
      obtain ⟨q, ls, rfl, hq, hI, hT, hM, hb⟩ := hrel
      by_cases hqN : q < N
      ·have hq0 : (0 : Int) ≤ (q : Int) := by omega
       have hq1 : (q : Int) < (N : Int) := by omega
       go_wp2
       go_loopw [10] (fun s10 wr => ∃ (i : Nat) (ls : List Int), s10 = .int .i64 i ∧ i ≤ (el l q).2.length ∧ Hid (LnT l fr 1152921504606846976 ls ∧ LnTo l fr r q i ls) ∧ Hid (Blk wr (w.heap.size + 1) (ls.map (Value.int .i64)).toArray 3) ∧ Hid (Blk wr w.heap.size #[.int .i64 z, .slice a N cap] 24) ∧ Hid (Below w.heap.size w wr)) (fun s10 _ => (el l q).2.length - (intOf s10).toNat)
       case atStart => exact ⟨0, ls, by go_num, Nat.zero_le _, hI, hT, hM, hb⟩
       case round =>
        clear hI hT hM hb
        obtain ⟨i, ls, rfl, hi, hI, hT, hM, hb⟩ := hrel
        obtain ⟨b, off, va, rfl, hbl, s0, s1, sAr⟩ := HC.out q hqN
        obtain ⟨fb, fo, rfl, hfb, u0⟩ := HFC.out q hqN
        obtain ⟨fi0, fi9, hal, hAR⟩ := HNU.out q hqN
        obtain ⟨sa, sc, rfl, hca⟩ := sAr.get
        have d1 := hM.out.cell 1 (v := .slice (some ⟨b, off, none⟩) N cap) rfl
        have c1 := (hb.out.cell (p := ⟨b, off + q * 2 + 1, none⟩) hbl).trans s1
        by_cases hiA : i < (el l q).2.length
        ·have hi0 : (0 : Int) ≤ (i : Int) := by omega
         have hi1 : (i : Int) < ((el l q).2.length : Int) := by omega
         obtain ⟨b4, of4, rfl, hb4, g0, g1, g2, g3⟩ := hca i hiA
         obtain ⟨hw0, hw9, t, et, htN⟩ := hAR i hiA
         obtain ⟨fb', fo', hfe, _, u1⟩ := HFC.out t htN
         injection hfe with hfe
         injection hfe with hfe1 hfe2 _
         subst hfe1 hfe2
         have hfq := HFR.out q hqN
         have hft := HFR.out t htN
         have HKQ : Hid ((TgA fr q (el (el l q).2 i) → el ls t < 1152921504606846976 → el ls q ≤ el ls t + 1) → LnT l fr 1152921504606846976 ls ∧ LnTo l fr r q (i + 1) ls) := fun h9 => ⟨hI.out.1, HKP.out r q i t ls hI.out.2 hI.out.1 (by omega) hqN et htN h9⟩
         have HPQ : Hid (TgA fr q (el (el l q).2 i) → el ls t < 1152921504606846976 → el ls t + 1 < el ls q → LnT l fr 1152921504606846976 (ls.set q (el ls t + 1)) ∧ LnTo l fr r q (i + 1) (ls.set q (el ls t + 1))) := fun h8 h9 h10 => HPT.out r q i t ls hI.out.2 hI.out.1 (by omega) hqN hiA et htN h8 h9 h10
         have HTG : Hid (TgA fr q (el (el l q).2 i) ↔ el fr t ≠ 1000000001 ∧ (el (el l q).2 i).2.2.1 + el fr t = el fr q) := by (show _ ↔ _); unfold TgA; rw [et, Int.toNat_natCast]
         have HLL : Hid (ls.length = N) := by (show _ = _); rw [hI.out.1.len, HN.out]
         have hlq := hI.out.1.rng q (by rw [HN.out]; exact hqN)
         have hlt := hI.out.1.rng t (by rw [HN.out]; exact htN)
         have g0 := (hb.out.cell (p := ⟨b4, of4 + i * 4, none⟩) hb4).trans g0
         have g1 := (hb.out.cell (p := ⟨b4, of4 + i * 4 + 1, none⟩) hb4).trans g1
         have g2 := (hb.out.cell (p := ⟨b4, of4 + i * 4 + 2, none⟩) hb4).trans g2
         have g3 := (hb.out.cell (p := ⟨b4, of4 + i * 4 + 3, none⟩) hb4).trans g3
         rw [et] at g3
         have U0 := hidP u0
         have U1 := hidP u1
         clear hca hAR et s0 s1 sAr u0 u1 HKP HPT HNU HFC HFR hI
         generalize TgA fr q (el (el l q).2 i) = TG at *
         generalize el (el l q).2 i = ac at *
         obtain ⟨p0, p1, p2, p3⟩ := ac
         simp only at g0 g1 g2 hw0 hw9
         have HTG : Hid (TG ↔ el fr t ≠ 1000000001 ∧ p2 + el fr t = el fr q) := HTG.out
         have X1 := hidP (Blk.made wr #[.int .i64 p0, .int .i64 p1, .int .i64 p2, .int .i64 (t : Int)] 64)
         have T5 := hidP (hT.out.alloc (.cells #[.int .i64 p0, .int .i64 p1, .int .i64 p2, .int .i64 (t : Int)] 64))
         have M5 := hidP (hM.out.alloc (.cells #[.int .i64 p0, .int .i64 p1, .int .i64 p2, .int .i64 (t : Int)] 64))
         have B5 := hidP (hb.out.alloc hb.out.size (.cells #[.int .i64 p0, .int .i64 p1, .int .i64 p2, .int .i64 (t : Int)] 64))
         go_upto_region 19 with fail
         clear g0 g1 g2 g3 d1 c1 hT hM hb
         generalize wr.alloc (.cells #[.int .i64 p0, .int .i64 p1, .int .i64 p2, .int .i64 (t : Int)] 64) = w8 at *
         generalize wr.heap.size = Q1 at *
         have x2 := X1.out.cell 2 (v := .int .i64 p2) rfl
         have x3 := X1.out.cell 3 (v := .int .i64 (t : Int)) rfl
         have y0 := (B5.out.cell (p := ⟨fb, fo + q, none⟩) hfb).trans U0.out
         have y1 := (B5.out.cell (p := ⟨fb, fo + t, none⟩) hfb).trans U1.out
         have v0 := num_cell T5.out (j := q) (by rw [HLL.out]; exact hqN)
         have v1 := num_cell T5.out (j := t) (by rw [HLL.out]; exact htN)
         have v2 := T5.out.fz q
         have ht0 : (0 : Int) ≤ (t : Int) := by omega
         have ht1 : (t : Int) < (N : Int) := by omega
         generalize el fr t = xt at *
         generalize el fr q = xq at *
         generalize hyt : el ls t = yt at *
         generalize hyq : el ls q = yq at *
         have k1 : IntKind.i64.wrap (p2 + xt) = p2 + xt := wrapI (by omega) (by omega)
         have k2 : IntKind.i64.wrap (yt + 1) = yt + 1 := wrapI (by omega) (by omega)
         have HT4 : Hid (∀ m, Blk (World.setCell (w8.drewN m) ⟨w.heap.size + 1, q, none⟩ (.int .i64 (yt + 1))) (w.heap.size + 1) ((ls.set q (yt + 1)).map (Value.int .i64)).toArray 3) := fun m => (T5.out.drewN m).putN q _
         have HM4 : Hid (∀ m, Blk (World.setCell (w8.drewN m) ⟨w.heap.size + 1, q, none⟩ (.int .i64 (yt + 1))) w.heap.size #[.int .i64 z, .slice (some ⟨b, off, none⟩) N cap] 24) := fun m => (M5.out.drewN m).setO _ _ (by show w.heap.size ≠ w.heap.size + 1; omega)
         have HB4 : Hid (∀ m, Below w.heap.size w (World.setCell (w8.drewN m) ⟨w.heap.size + 1, q, none⟩ (.int .i64 (yt + 1)))) := fun m => (below_drewI B5.out m).setCell (p := ⟨w.heap.size + 1, q, none⟩) (Nat.le_succ _) _
         clear hyt hyq X1
         by_cases e0 : xt = 1000000001
         ·have b0 : (xt != 1000000001) = false := by simp [e0]
          have HX := hidP (HKQ.out fun h9 => absurd e0 (HTG.out.1 h9).1)
          clear e0 HTG HKQ HPQ
          go_quiet (fail)
          go_wp2
          go_roundw
          case rel => exact ⟨i + 1, ls, by go_num, by omega, HX, T5.out.drewN _, M5.out.drewN _, below_drewI B5.out _⟩
          case measure => simp [intOf]; omega
         have b0 : (xt != 1000000001) = true := by simp [e0]
         by_cases e1 : p2 + xt = xq
         rotate_left
         ·have b1 : (p2 + xt == xq) = false := by simp [e1]
          have HX := hidP (HKQ.out fun h9 => absurd (HTG.out.1 h9).2 e1)
          clear e0 e1 HTG HKQ HPQ
          go_quiet (fail)
          go_wp2
          go_roundw
          case rel => exact ⟨i + 1, ls, by go_num, by omega, HX, T5.out.drewN _, M5.out.drewN _, below_drewI B5.out _⟩
          case measure => simp [intOf]; omega
         have b1 : (p2 + xt == xq) = true := by simp [e1]
         have HTT : Hid TG := HTG.out.2 ⟨e0, e1⟩
         clear e0 e1 HTG
         by_cases e2 : yt = 1152921504606846976
         ·have b2 : (yt != 1152921504606846976) = false := by simp [e2]
          have HX := hidP (HKQ.out fun h9 h8 => absurd h8 (by omega))
          clear e2 HKQ HPQ
          go_quiet (fail)
          go_wp2
          go_roundw
          case rel => exact ⟨i + 1, ls, by go_num, by omega, HX, T5.out.drewN _, M5.out.drewN _, below_drewI B5.out _⟩
          case measure => simp [intOf]; omega
         have b2 : (yt != 1152921504606846976) = true := by simp [e2]
         by_cases e3 : yt + 1 < yq
         rotate_left
         ·have HX := hidP (HKQ.out fun h9 h8 => by omega)
          clear e2 HKQ HPQ
          go_quiet (fail)
          go_wp2
          go_roundw
          case rel => exact ⟨i + 1, ls, by go_num, by omega, HX, T5.out.drewN _, M5.out.drewN _, below_drewI B5.out _⟩
          case measure => simp [intOf]; omega
         have HX := hidP (HPQ.out HTT.out (by omega) e3)
         clear e2 HKQ HPQ
         go_quiet (fail)
         go_wp2
         go_roundw
         case rel => exact ⟨i + 1, ls.set q (yt + 1), by go_num, by omega, HX, HT4.out _, HM4.out _, HB4.out _⟩
         case measure => simp [intOf]; omega
        ·have hi1 : ¬ (i : Int) < ((el l q).2.length : Int) := by omega
         obtain rfl : i = (el l q).2.length := by omega
         have HI3 : Hid (LnT l fr 1152921504606846976 ls ∧ LnTo l fr r (q + 1) 0 ls) := ⟨hI.out.1, HRW.out r q ls hI.out.2⟩
         go_wp2
         go_roundw
         case rel => exact ⟨q + 1, ls, by go_num, by omega, HI3, hT, hM, hb⟩
         case measure => simp [intOf]; omega
      ·have hq1 : ¬ (q : Int) < (N : Int) := by omega
       obtain rfl : q = N := by omega
       have HI3 : Hid (LnT l fr 1152921504606846976 ls ∧ LnLe l fr (r + 1) ls) := ⟨hI.out.1, HRD.out r ls hI.out.2⟩
       go_wp2
       go_roundw
       case rel => exact ⟨r + 1, ls, by go_num, by omega, HI3, hT, hM, hb⟩
       case measure => simp [intOf]; omega
    ·have hr1 : ¬ (r : Int) < (N : Int) := by omega
     obtain rfl : r = N := by omega
     have HLL : ls.length = r := by rw [hI.out.1.len, HN.out]
     have HNM : Hid (Nums wr (.slice (some ⟨w.heap.size + 1, 0, none⟩) r r) ls) := by (show Nums _ _ _); have h9 := nums_block (cap := r) hT.out; rw [HLL] at h9; exact h9
     go_wp2
     go_ret
     first | exact ⟨_, ls, rfl, hI.out, HNM.out, hb.out⟩ | exact ⟨_, rfl, ls, hI.out, HNM.out, hb.out⟩ | exact ⟨_, rfl, ls, ⟨hI.out.1, hI.out.2⟩, HNM.out, hb.out⟩
end Go.Proofs.Ytobhjhjfannnnaa.Wt
