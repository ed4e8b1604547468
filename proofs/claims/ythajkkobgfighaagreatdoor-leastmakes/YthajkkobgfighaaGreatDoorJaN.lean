/- The reference: which states can be reached. -/
import Derived.Test.YthajkkobgfighaaGreatDoorJan
import Derived.Test.YthajkkobgfighaaGreatDoorJaK
import Derived.Deep.DeepCutAuto
import Derived.Test.YthajkkobgfighaaGreatDoorJad
import Derived.Test.YthajkkobgfighaaGreatDoorJag
namespace Go.Proofs.YthajkkobgfighaaGreatDoor.Wt
open Go.ChangeShapes Go.WideShapes Go.ChangeAt Go.RowKit
open Go.Proofs.YthajkkobgfighaaGreatDoor.Pl
set_option linter.unusedVariables false
set_option linter.unusedSimpArgs false
theorem run_bools (n : Nat) (hn : n ≤ 1000) (W : World) : (Instr.makeSlice 49 (.int .i64 (n : Int)) (.int .i64 (n : Int))).run Tryz.prog W = .ok (.slice (some ⟨W.heap.size, 0, none⟩) n n) (W.alloc (.cells ((List.replicate n false).map Value.bool).toArray 4)) := by
 obtain ⟨i1, hi1, hy0, hy1, hy2⟩ := info_parts infoBool
 have h := run_make (P := Tryz.prog) W 49 4 i1 _ Tryz.underlying49 hi1 hy0 .i64 .i64 n n (by omega) (by omega) (by rw [hy2]; omega) (by omega)
 rw [hy1, Int.toNat_natCast, made_bools] at h
 exact h
def chkA (z : Int) (l : List St) (b0 : List Bool) (q : Nat) : Prop := ∀ p, p < q → ((p : Int) = z → el b0 p = true) ∧ (el b0 p = true → ∀ a ∈ (el l p).2, el b0 a.2.2.2.toNat = true)
theorem chkA_all {z : Int} {l : List St} {b0 : List Bool} (h : chkA z l b0 l.length) : AheadC z l (fun q => el b0 q = true) := ⟨fun q hq => (h q hq).1, fun q hq => (h q hq).2⟩
theorem chkA_next {z : Int} {l : List St} {b0 : List Bool} {q : Nat} (h : chkA z l b0 q) (h1 : (q : Int) = z → el b0 q = true) (h2 : el b0 q = true → ∀ a ∈ (el l q).2, el b0 a.2.2.2.toNat = true) : chkA z l b0 (q + 1) := by
 intro p hp
 by_cases e : p = q
 ·subst e; exact ⟨h1, h2⟩
 ·exact h p (by omega)
theorem to_nat {n : Nat} {a : Ar} (h : arcB n a = true) : ∃ t : Nat, a.2.2.2 = (t : Int) ∧ t < n := by
 simp only [arcB, inB, Bool.and_eq_true, decide_eq_true_eq] at h
 exact ⟨a.2.2.2.toNat, by omega, by omega⟩
set_option maxRecDepth 100000 in
set_option maxHeartbeats 3200000 in
theorem aheadOf_ok (v : Value) (m : Mc) (w : World) (h : Mach w v m) (hok : okM m) (hr : faultM m = 0) :
  Calls Tryz.prog 64 #[v] w fun e w' => ∃ v', e = .returned (.tuple #[v', .int .i64 0]) ∧ (∃ bs, Bools w' v' bs ∧ Least (AheadC m.1 m.2) m.2.length bs) ∧ Below w.heap.size w w' := by
 obtain ⟨z, l⟩ := m
 obtain ⟨vs, rfl, hS⟩ := h
 obtain ⟨a, cap, rfl, hc⟩ := hS.get
 have HM : Hid (Mach w (.agg #[.int .i64 z, .slice a l.length cap]) (z, l)) := ⟨_, rfl, hS⟩
 have HK : Hid (okM (z, l)) := hok
 have HR : Hid (faultM (z, l) = 0) := hr
 have h60 := (right_size hr).1
 have HA4 : Hid (∀ j, j < l.length → (el l j).2.all (arcB l.length) = true) := fun j hj => (right_st hr hj).2
 have HLK : Hid (∀ j, j < l.length → (el l j).2.length * 32 ≤ 140737488351232) := hok.2
 have HC : Hid (∀ j, j < l.length → ∃ b off va, a = some ⟨b, off, none⟩ ∧ b < w.heap.size ∧ w.cell? ⟨b, off + j * 2, none⟩ = some (.int .i64 (el l j).1) ∧ w.cell? ⟨b, off + j * 2 + 1, none⟩ = some va ∧ Arcs w va (el l j).2) := hc
 clear hS hc hok hr
 simp only
 generalize hn : l.length = n at *
 have HN : Hid (l.length = n) := hn
 clear hn
 have hmk := run_bools n (by omega)
 go_enter Tryz.func64, Tryz.ntmps64
 go_wp2_with (first
  | (go_at_call 30; (with_reducible refine (fault_any _ (z, l) _ (HM.out.later (B := w.heap.size) (by go_grown) (Nat.le_refl _)) HK.out _ HR.out).mono ?_); rintro e w1 ⟨rfl, hb⟩; obtain ⟨s1, b1, hb1⟩ := boxed hb (by simp); have K0 : Hid (Blk w1 w.heap.size #[.int .i64 z, .slice a n cap] 24) := b1; have c1 := b1.cell 1 (v := .slice a n cap) rfl; have HB1 : Hid (Below w.heap.size w w1) := hb1; clear b1 hb1 hb))
 have z1 : w.heap.size < w1.heap.size := by omega
 go_loopw [7] (fun i wr => ∃ (k : Nat) (bs : List Bool), k ≤ n + 1 ∧ i = .int .i64 k ∧ Hid (Rounds (AheadC z l) n k bs) ∧ Hid (Blk wr w1.heap.size (bs.map Value.bool).toArray 4) ∧ Hid (Blk wr w.heap.size #[.int .i64 z, .slice a n cap] 24) ∧ Hid (Below w.heap.size w wr)) (fun i _ => n + 1 - (intOf i).toNat)
 case atStart => exact ⟨0, _, Nat.zero_le _, rfl, Rounds.start _ _, by (show Blk _ _ _ _); rw [show (List.map Value.bool (List.replicate n false)).toArray = Array.replicate n (Value.bool false) from by simp]; exact Blk.made _ _ _, K0.out.alloc _, HB1.out.alloc HB1.out.size _⟩
 case round =>
  obtain ⟨k, b0, hk, rfl, hrd, hg, hbx, hb⟩ := hrel
  by_cases hkn : k ≤ n
  ·have hkn' : (k : Int) ≤ (n : Int) := by omega
   go_wp2
   go_loopw [8] (fun i wr => ∃ (q : Nat) (bs : List Bool), q ≤ n ∧ i = .int .i64 q ∧ Hid (Pass (AheadC z l) n b0 bs (chkA z l b0 q)) ∧ Hid (Blk wr w1.heap.size (bs.map Value.bool).toArray 4) ∧ Hid (Blk wr w.heap.size #[.int .i64 z, .slice a n cap] 24) ∧ Hid (Below w.heap.size w wr)) (fun i _ => n - (intOf i).toNat)
   case atStart => exact ⟨0, b0, Nat.zero_le _, rfl, hrd.out.begin (fun p hp => absurd hp (Nat.not_lt_zero _)), hg, hbx, hb⟩
   case round =>
    obtain ⟨q, bs, hq, rfl, hps, hg, hbx, hb⟩ := hrel
    by_cases hqn : q < n
    ·have hq0 : (0 : Int) ≤ (q : Int) := by omega
     have hq1 : (q : Int) < (n : Int) := by omega
     have x0 := hbx.out.cell 0 (v := .int .i64 z) rfl
     have y0 := bool_cell hg.out (j := q) (by rw [hps.out.len]; exact hqn)
     have y1 := hg.out.fz q
     go_upto_if 33 with fail
     go_cut [] (fun wx => ∃ bs : List Bool, Hid (Pass (AheadC z l) n b0 bs (chkA z l b0 q ∧ ((q : Int) = z → el b0 q = true))) ∧ Hid (Blk wx w1.heap.size (bs.map Value.bool).toArray 4) ∧ Hid (Blk wx w.heap.size #[.int .i64 z, .slice a n cap] 24) ∧ Hid (Below w.heap.size w wx))
     case first =>
      by_cases hqz : (q : Int) = z
      ·have HP2 := hps.out.set (q := q) (chk' := chkA z l b0 q ∧ ((q : Int) = z → el b0 q = true)) hqn (fun T hT => hT.1 q (by rw [HN.out]; exact hqn) hqz) (fun e c => ⟨c, fun _ => e⟩)
       have HG2 := hg.out.set q (.bool true)
       rw [set_bool] at HG2
       subst hqz
       go_wp2
       go_meet
       case rel => exact ⟨_, HP2, HG2, hbx.out.setO _ _ (by show w.heap.size ≠ w1.heap.size; omega), hb.out.setCell (by show _ ≤ w1.heap.size; omega) _⟩
      ·have hqb : ((q : Int) == z) = false := by simpa using hqz
       go_wp2
       go_meet
       case rel => exact ⟨bs, hps.out.keep (fun _ c => ⟨c, fun e => absurd e hqz⟩), hg, hbx, hb⟩
     case rest =>
      obtain ⟨bs, hps, hg, hbx, hb⟩ := hcut
      obtain ⟨b, off, va, rfl, hbl, g0, g1, gA⟩ := HC.out q hqn
      obtain ⟨a2, cap2, hva, hga⟩ := gA.get
      have HGA : Hid (∀ j, j < (el l q).2.length → ∃ b off, a2 = some ⟨b, off, none⟩ ∧ b < w.heap.size ∧ w.cell? ⟨b, off + j * 4, none⟩ = some (.int .i64 (el (el l q).2 j).1) ∧ w.cell? ⟨b, off + j * 4 + 1, none⟩ = some (.int .i64 (el (el l q).2 j).2.1) ∧ w.cell? ⟨b, off + j * 4 + 2, none⟩ = some (.int .i64 (el (el l q).2 j).2.2.1) ∧ w.cell? ⟨b, off + j * 4 + 3, none⟩ = some (.int .i64 (el (el l q).2 j).2.2.2)) := hga
      have HAL : Hid (∀ a ∈ (el l q).2, ∃ t : Nat, a.2.2.2 = (t : Int) ∧ t < n) := fun a ha => to_nat (by have h9 := List.all_eq_true.1 (HA4.out q hqn) a ha; exact h9)
      have HCL : Hid (∀ T, AheadC z l T → T q → ∀ a ∈ (el l q).2, T a.2.2.2.toNat) := fun T hT h => hT.2 q (by rw [HN.out]; exact hqn) h
      have hL32 := HLK.out q hqn
      have HNX : Hid (∀ c : chkA z l b0 q ∧ ((q : Int) = z → el b0 q = true), (el b0 q = true → ∀ a ∈ (el l q).2, el b0 a.2.2.2.toNat = true) → chkA z l b0 (q + 1)) := fun c h2 => chkA_next c.1 c.2 h2
      subst hva
      clear gA hga g0 x0 y0 y1
      generalize (el l q).2 = ar at *
      generalize hL : ar.length = L at *
      have HL : Hid (ar.length = L) := hL
      clear hL
      go_wp2
      go_loopw [9] (fun i wr => ∃ (j : Nat) (bs : List Bool), j ≤ L ∧ i = .int .i64 j ∧ Hid (Pass (AheadC z l) n b0 bs ((chkA z l b0 q ∧ ((q : Int) = z → el b0 q = true)) ∧ (el b0 q = true → ∀ t, t < j → el b0 (el ar t).2.2.2.toNat = true))) ∧ Hid (Blk wr w1.heap.size (bs.map Value.bool).toArray 4) ∧ Hid (Blk wr w.heap.size #[.int .i64 z, .slice (some ⟨b, off, none⟩) n cap] 24) ∧ Hid (Below w.heap.size w wr)) (fun i _ => L - (intOf i).toNat)
      case atStart => exact ⟨0, bs, Nat.zero_le _, rfl, hps.out.keep (fun _ c => ⟨c, fun _ t ht => absurd ht (Nat.not_lt_zero _)⟩), hg, hbx, hb⟩
      case round =>
       obtain ⟨j, bs, hj, rfl, hps, hg, hbx, hb⟩ := hrel
       have x1 := hbx.out.cell 1 (v := .slice (some ⟨b, off, none⟩) n cap) rfl
       have y0 := bool_cell hg.out (j := q) (by rw [hps.out.len]; exact hqn)
       have g1 := (hb.out.cell (p := ⟨b, off + q * 2 + 1, none⟩) hbl).trans g1
       by_cases hjL : j < L
       ·have hj0 : (0 : Int) ≤ (j : Int) := by omega
        have hj1 : (j : Int) < (L : Int) := by omega
        rcases bool_cases' (el bs q) with hin | hin
        ·rw [hin] at y0
         obtain ⟨b2, off2, rfl, hb2l, _, _, _, e3⟩ := HGA.out j hjL
         have e3 := (hb.out.cell (p := ⟨b2, off2 + j * 4 + 3, none⟩) hb2l).trans e3
         have hmem : el ar j ∈ ar := el_mem (by rw [HL.out]; exact hjL)
         obtain ⟨t, ht, htn⟩ := HAL.out _ hmem
         have htt : (el ar j).2.2.2.toNat = t := by rw [ht]; rfl
         have HP2 := hps.out.set (q := t) (chk' := (chkA z l b0 q ∧ ((q : Int) = z → el b0 q = true)) ∧ (el b0 q = true → ∀ t, t < j + 1 → el b0 (el ar t).2.2.2.toNat = true)) htn (fun T hT => by have h9 := HCL.out T hT (hps.out.sound T hT q hqn hin) _ hmem; rwa [htt] at h9) (fun e c => ⟨c.1, fun h t' ht' => by
          by_cases e9 : t' = j
          ·subst e9; rw [htt]; exact e
          ·exact c.2 h t' (by omega)⟩)
         have HG2 := hg.out.set t (.bool true)
         rw [set_bool] at HG2
         rw [ht] at e3
         have ht0 : (0 : Int) ≤ (t : Int) := by omega
         have ht1 : (t : Int) < (n : Int) := by omega
         have y2 := bool_cell hg.out (j := t) (by rw [hps.out.len]; exact htn)
         have y3 := hg.out.fz t
         clear hin ht htt
         go_wp2
         go_roundw
         case rel => exact ⟨j + 1, _, by omega, by go_num, HP2, HG2, hbx.out.setO _ _ (by show w.heap.size ≠ w1.heap.size; omega), hb.out.setCell (by show _ ≤ w1.heap.size; omega) _⟩
         case measure => simp [intOf]; omega
        ·rw [hin] at y0
         have HP2 := hps.out.keep (chk' := chkA z l b0 (q + 1)) (fun e c => HNX.out c.1 (fun h => by rw [e] at hin; rw [hin] at h; cases h))
         clear hin
         go_wp2
         go_roundw
         case rel => exact ⟨q + 1, bs, by omega, by go_num, HP2, hg, hbx, hb⟩
         case measure => simp [intOf]; omega
       ·have hnl : ¬ (j : Int) < (L : Int) := by omega
        have HP2 := hps.out.keep (chk' := chkA z l b0 (q + 1)) (fun e c => HNX.out c.1 (fun h a ha => by
         obtain ⟨t, ht, rfl⟩ := mem_el ha
         exact c.2 h t (by rw [HL.out] at ht; omega)))
        go_wp2
        go_roundw
        case rel => exact ⟨q + 1, bs, by omega, by go_num, HP2, hg, hbx, hb⟩
        case measure => simp [intOf]; omega
    ·have hqe : q = n := by omega
     have hnl : ¬ (q : Int) < (n : Int) := by omega
     have HRD := hrd.out.next hps.out (fun c => by rw [hqe, ← HN.out] at c; exact chkA_all c)
     clear hqe
     go_wp2
     go_roundw
     case rel => exact ⟨k + 1, bs, by omega, by go_num, HRD, hg, hbx, hb⟩
     case measure => simp [intOf]; omega
  ·have hke : k = n + 1 := by omega
   have hnl : ¬ (k : Int) ≤ (n : Int) := by omega
   have HLS : Hid (Least (AheadC z l) n b0) := by have h9 := hrd.out; rw [hke] at h9; exact h9.least
   have HBL : Hid (Bools wr (.slice (some ⟨w1.heap.size, 0, none⟩) n n) b0) := by have h9 := bools_block (cap := n) hg.out; rw [hrd.out.len] at h9; exact h9
   clear hke
   go_wp2
   exact bodyPost_ret (v := .tuple #[.slice (some ⟨w1.heap.size, 0, none⟩) n n, .int .i64 0]) (by simp [results, Tryz.results64, go_sem]) rfl ⟨_, rfl, ⟨b0, HBL.out, HLS.out⟩, hb.out⟩
def chkB (l : List St) (b0 : List Bool) (q : Nat) : Prop := ∀ p, p < q → ((el l p).1 ≠ 1000000001 → el b0 p = true) ∧ (∀ a ∈ (el l p).2, el b0 a.2.2.2.toNat = true → el b0 p = true)
theorem chkB_all {l : List St} {b0 : List Bool} (h : chkB l b0 l.length) : BackC l (fun q => el b0 q = true) := ⟨fun q hq => (h q hq).1, fun q hq => (h q hq).2⟩
theorem chkB_next {l : List St} {b0 : List Bool} {q : Nat} (h : chkB l b0 q) (h1 : (el l q).1 ≠ 1000000001 → el b0 q = true) (h2 : ∀ a ∈ (el l q).2, el b0 a.2.2.2.toNat = true → el b0 q = true) : chkB l b0 (q + 1) := by
 intro p hp
 by_cases e : p = q
 ·subst e; exact ⟨h1, h2⟩
 ·exact h p (by omega)
set_option maxRecDepth 100000 in
set_option maxHeartbeats 3200000 in
theorem backOf_ok (v : Value) (m : Mc) (w : World) (h : Mach w v m) (hok : okM m) (hr : faultM m = 0) :
  Calls Tryz.prog 65 #[v] w fun e w' => ∃ v', e = .returned (.tuple #[v', .int .i64 0]) ∧ (∃ bs, Bools w' v' bs ∧ Least (BackC m.2) m.2.length bs) ∧ Below w.heap.size w w' := by
 obtain ⟨z, l⟩ := m
 obtain ⟨vs, rfl, hS⟩ := h
 obtain ⟨a, cap, rfl, hc⟩ := hS.get
 have HM : Hid (Mach w (.agg #[.int .i64 z, .slice a l.length cap]) (z, l)) := ⟨_, rfl, hS⟩
 have HK : Hid (okM (z, l)) := hok
 have HR : Hid (faultM (z, l) = 0) := hr
 have h60 := (right_size hr).1
 have HA4 : Hid (∀ j, j < l.length → (el l j).2.all (arcB l.length) = true) := fun j hj => (right_st hr hj).2
 have HLK : Hid (∀ j, j < l.length → (el l j).2.length * 32 ≤ 140737488351232) := hok.2
 have HC : Hid (∀ j, j < l.length → ∃ b off va, a = some ⟨b, off, none⟩ ∧ b < w.heap.size ∧ w.cell? ⟨b, off + j * 2, none⟩ = some (.int .i64 (el l j).1) ∧ w.cell? ⟨b, off + j * 2 + 1, none⟩ = some va ∧ Arcs w va (el l j).2) := hc
 clear hS hc hok hr
 simp only
 generalize hn : l.length = n at *
 have HN : Hid (l.length = n) := hn
 clear hn
 have hmk := run_bools n (by omega)
 go_enter Tryz.func65, Tryz.ntmps65
 go_wp2_with (first
  | (go_at_call 30; (with_reducible refine (fault_any _ (z, l) _ (HM.out.later (B := w.heap.size) (by go_grown) (Nat.le_refl _)) HK.out _ HR.out).mono ?_); rintro e w1 ⟨rfl, hb⟩; obtain ⟨s1, b1, hb1⟩ := boxed hb (by simp); have K0 : Hid (Blk w1 w.heap.size #[.int .i64 z, .slice a n cap] 24) := b1; have c1 := b1.cell 1 (v := .slice a n cap) rfl; have HB1 : Hid (Below w.heap.size w w1) := hb1; clear b1 hb1 hb))
 have z1 : w.heap.size < w1.heap.size := by omega
 go_loopw [7] (fun i wr => ∃ (k : Nat) (bs : List Bool), k ≤ n + 1 ∧ i = .int .i64 k ∧ Hid (Rounds (BackC l) n k bs) ∧ Hid (Blk wr w1.heap.size (bs.map Value.bool).toArray 4) ∧ Hid (Blk wr w.heap.size #[.int .i64 z, .slice a n cap] 24) ∧ Hid (Below w.heap.size w wr)) (fun i _ => n + 1 - (intOf i).toNat)
 case atStart => exact ⟨0, _, Nat.zero_le _, rfl, Rounds.start _ _, by (show Blk _ _ _ _); rw [show (List.map Value.bool (List.replicate n false)).toArray = Array.replicate n (Value.bool false) from by simp]; exact Blk.made _ _ _, K0.out.alloc _, HB1.out.alloc HB1.out.size _⟩
 case round =>
  obtain ⟨k, b0, hk, rfl, hrd, hg, hbx, hb⟩ := hrel
  by_cases hkn : k ≤ n
  ·have hkn' : (k : Int) ≤ (n : Int) := by omega
   go_wp2
   go_loopw [8] (fun i wr => ∃ (q : Nat) (bs : List Bool), q ≤ n ∧ i = .int .i64 q ∧ Hid (Pass (BackC l) n b0 bs (chkB l b0 q)) ∧ Hid (Blk wr w1.heap.size (bs.map Value.bool).toArray 4) ∧ Hid (Blk wr w.heap.size #[.int .i64 z, .slice a n cap] 24) ∧ Hid (Below w.heap.size w wr)) (fun i _ => n - (intOf i).toNat)
   case atStart => exact ⟨0, b0, Nat.zero_le _, rfl, hrd.out.begin (fun p hp => absurd hp (Nat.not_lt_zero _)), hg, hbx, hb⟩
   case round =>
    obtain ⟨q, bs, hq, rfl, hps, hg, hbx, hb⟩ := hrel
    by_cases hqn : q < n
    ·have hq0 : (0 : Int) ≤ (q : Int) := by omega
     have hq1 : (q : Int) < (n : Int) := by omega
     obtain ⟨b, off, va, ha, hbl, g0, g1, gA⟩ := HC.out q hqn
     have x1 := hbx.out.cell 1 (v := .slice a n cap) rfl
     subst ha
     have g0' := (hb.out.cell (p := ⟨b, off + q * 2, none⟩) hbl).trans g0
     have y0 := bool_cell hg.out (j := q) (by rw [hps.out.len]; exact hqn)
     have y1 := hg.out.fz q
     go_upto_if 36 with fail
     go_cut [] (fun wx => ∃ bs : List Bool, Hid (Pass (BackC l) n b0 bs (chkB l b0 q ∧ ((el l q).1 ≠ 1000000001 → el b0 q = true))) ∧ Hid (Blk wx w1.heap.size (bs.map Value.bool).toArray 4) ∧ Hid (Blk wx w.heap.size #[.int .i64 z, .slice (some ⟨b, off, none⟩) n cap] 24) ∧ Hid (Below w.heap.size w wx))
     case first =>
      by_cases hqz : (el l q).1 = 1000000001
      ·have HP2 := hps.out.keep (chk' := chkB l b0 q ∧ ((el l q).1 ≠ 1000000001 → el b0 q = true)) (fun _ c => ⟨c, fun e => absurd hqz e⟩)
       rw [hqz] at g0'
       go_wp2
       go_meet
       case rel => exact ⟨bs, HP2, hg, hbx, hb⟩
      ·have hqb : ((el l q).1 != 1000000001) = true := by simpa using hqz
       have HP2 := hps.out.set (q := q) (chk' := chkB l b0 q ∧ ((el l q).1 ≠ 1000000001 → el b0 q = true)) hqn (fun T hT => hT.1 q (by rw [HN.out]; exact hqn) hqz) (fun e c => ⟨c, fun _ => e⟩)
       have HG2 := hg.out.set q (.bool true)
       rw [set_bool] at HG2
       go_wp2
       go_meet
       case rel => exact ⟨_, HP2, HG2, hbx.out.setO _ _ (by show w.heap.size ≠ w1.heap.size; omega), hb.out.setCell (by show _ ≤ w1.heap.size; omega) _⟩
     case rest =>
      obtain ⟨bs, hps, hg, hbx, hb⟩ := hcut
      obtain ⟨a2, cap2, hva, hga⟩ := gA.get
      have HGA : Hid (∀ j, j < (el l q).2.length → ∃ b off, a2 = some ⟨b, off, none⟩ ∧ b < w.heap.size ∧ w.cell? ⟨b, off + j * 4, none⟩ = some (.int .i64 (el (el l q).2 j).1) ∧ w.cell? ⟨b, off + j * 4 + 1, none⟩ = some (.int .i64 (el (el l q).2 j).2.1) ∧ w.cell? ⟨b, off + j * 4 + 2, none⟩ = some (.int .i64 (el (el l q).2 j).2.2.1) ∧ w.cell? ⟨b, off + j * 4 + 3, none⟩ = some (.int .i64 (el (el l q).2 j).2.2.2)) := hga
      have HAL : Hid (∀ a ∈ (el l q).2, ∃ t : Nat, a.2.2.2 = (t : Int) ∧ t < n) := fun a ha => to_nat (by have h9 := List.all_eq_true.1 (HA4.out q hqn) a ha; exact h9)
      have HCL : Hid (∀ T, BackC l T → ∀ a ∈ (el l q).2, T a.2.2.2.toNat → T q) := fun T hT => hT.2 q (by rw [HN.out]; exact hqn)
      have hL32 := HLK.out q hqn
      have HNX : Hid (∀ c : chkB l b0 q ∧ ((el l q).1 ≠ 1000000001 → el b0 q = true), (∀ a ∈ (el l q).2, el b0 a.2.2.2.toNat = true → el b0 q = true) → chkB l b0 (q + 1)) := fun c h2 => chkB_next c.1 c.2 h2
      subst hva
      clear gA hga g0 g0' x1 y0 y1
      generalize (el l q).1 = fin at *
      generalize (el l q).2 = ar at *
      generalize hL : ar.length = L at *
      have HL : Hid (ar.length = L) := hL
      clear hL
      go_wp2
      go_loopw [9] (fun i wr => ∃ (j : Nat) (bs : List Bool), j ≤ L ∧ i = .int .i64 j ∧ Hid (Pass (BackC l) n b0 bs ((chkB l b0 q ∧ (fin ≠ 1000000001 → el b0 q = true)) ∧ (∀ t, t < j → el b0 (el ar t).2.2.2.toNat = true → el b0 q = true))) ∧ Hid (Blk wr w1.heap.size (bs.map Value.bool).toArray 4) ∧ Hid (Blk wr w.heap.size #[.int .i64 z, .slice (some ⟨b, off, none⟩) n cap] 24) ∧ Hid (Below w.heap.size w wr)) (fun i _ => L - (intOf i).toNat)
      case atStart => exact ⟨0, bs, Nat.zero_le _, rfl, hps.out.keep (fun _ c => ⟨c, fun t ht => absurd ht (Nat.not_lt_zero _)⟩), hg, hbx, hb⟩
      case round =>
       obtain ⟨j, bs, hj, rfl, hps, hg, hbx, hb⟩ := hrel
       have x1 := hbx.out.cell 1 (v := .slice (some ⟨b, off, none⟩) n cap) rfl
       have g1 := (hb.out.cell (p := ⟨b, off + q * 2 + 1, none⟩) hbl).trans g1
       by_cases hjL : j < L
       ·have hj0 : (0 : Int) ≤ (j : Int) := by omega
        have hj1 : (j : Int) < (L : Int) := by omega
        obtain ⟨b2, off2, rfl, hb2l, _, _, _, e3⟩ := HGA.out j hjL
        have e3 := (hb.out.cell (p := ⟨b2, off2 + j * 4 + 3, none⟩) hb2l).trans e3
        have hmem : el ar j ∈ ar := el_mem (by rw [HL.out]; exact hjL)
        obtain ⟨t, ht, htn⟩ := HAL.out _ hmem
        have htt : (el ar j).2.2.2.toNat = t := by rw [ht]; rfl
        rw [ht] at e3
        have ht0 : (0 : Int) ≤ (t : Int) := by omega
        have ht1 : (t : Int) < (n : Int) := by omega
        have y2 := bool_cell hg.out (j := t) (by rw [hps.out.len]; exact htn)
        rcases bool_cases' (el bs t) with hin | hin
        ·rw [hin] at y2
         have HP2 := hps.out.set (q := q) (chk' := (chkB l b0 q ∧ (fin ≠ 1000000001 → el b0 q = true)) ∧ (∀ t, t < j + 1 → el b0 (el ar t).2.2.2.toNat = true → el b0 q = true)) hqn (fun T hT => HCL.out T hT _ hmem (by rw [htt]; exact hps.out.sound T hT t htn hin)) (fun e c => ⟨c.1, fun _ _ _ => e⟩)
         have HG2 := hg.out.set q (.bool true)
         rw [set_bool] at HG2
         have y0 := bool_cell hg.out (j := q) (by rw [hps.out.len]; exact hqn)
         have y1 := hg.out.fz q
         clear hin ht htt
         go_wp2
         go_roundw
         case rel => exact ⟨j + 1, _, by omega, by go_num, HP2, HG2, hbx.out.setO _ _ (by show w.heap.size ≠ w1.heap.size; omega), hb.out.setCell (by show _ ≤ w1.heap.size; omega) _⟩
         case measure => simp [intOf]; omega
        ·rw [hin] at y2
         have HP2 := hps.out.keep (chk' := (chkB l b0 q ∧ (fin ≠ 1000000001 → el b0 q = true)) ∧ (∀ t, t < j + 1 → el b0 (el ar t).2.2.2.toNat = true → el b0 q = true)) (fun e c => ⟨c.1, fun t' ht' h9 => by
          by_cases e9 : t' = j
          ·subst e9; rw [htt, ← e, hin] at h9; cases h9
          ·exact c.2 t' (by omega) h9⟩)
         clear hin ht htt
         go_wp2
         go_roundw
         case rel => exact ⟨j + 1, bs, by omega, by go_num, HP2, hg, hbx, hb⟩
         case measure => simp [intOf]; omega
       ·have hnl : ¬ (j : Int) < (L : Int) := by omega
        have HP2 := hps.out.keep (chk' := chkB l b0 (q + 1)) (fun e c => HNX.out c.1 (fun a ha => by
         obtain ⟨t, ht, rfl⟩ := mem_el ha
         exact c.2 t (by rw [HL.out] at ht; omega)))
        go_wp2
        go_roundw
        case rel => exact ⟨q + 1, bs, by omega, by go_num, HP2, hg, hbx, hb⟩
        case measure => simp [intOf]; omega
    ·have hqe : q = n := by omega
     have hnl : ¬ (q : Int) < (n : Int) := by omega
     have HRD := hrd.out.next hps.out (fun c => by rw [hqe, ← HN.out] at c; exact chkB_all c)
     clear hqe
     go_wp2
     go_roundw
     case rel => exact ⟨k + 1, bs, by omega, by go_num, HRD, hg, hbx, hb⟩
     case measure => simp [intOf]; omega
  ·have hke : k = n + 1 := by omega
   have hnl : ¬ (k : Int) ≤ (n : Int) := by omega
   have HLS : Hid (Least (BackC l) n b0) := by have h9 := hrd.out; rw [hke] at h9; exact h9.least
   have HBL : Hid (Bools wr (.slice (some ⟨w1.heap.size, 0, none⟩) n n) b0) := by have h9 := bools_block (cap := n) hg.out; rw [hrd.out.len] at h9; exact h9
   clear hke
   go_wp2
   exact bodyPost_ret (v := .tuple #[.slice (some ⟨w1.heap.size, 0, none⟩) n n, .int .i64 0]) (by simp [results, Tryz.results65, go_sem]) rfl ⟨_, rfl, ⟨b0, HBL.out, HLS.out⟩, hb.out⟩
set_option maxRecDepth 100000 in
theorem aheadOf_bad (v : Value) (m : Mc) (w : World) (h : Mach w v m) (hok : okM m) (r : Int) (hr : faultM m = r) (h0 : ¬ r = 0) :
  Calls Tryz.prog 64 #[v] w fun e w' => e = .returned (.tuple #[.slice none 0 0, .int .i64 r]) ∧ Below w.heap.size w w' := by
 obtain ⟨z, l⟩ := m
 obtain ⟨vs, rfl, hS⟩ := h
 obtain ⟨a, cap, rfl⟩ := hS.sl
 have HM : Hid (Mach w (.agg #[.int .i64 z, .slice a l.length cap]) (z, l)) := ⟨_, rfl, hS⟩
 have HK : Hid (okM (z, l)) := hok
 have HR : Hid (faultM (z, l) = r) := hr
 clear hS hok hr
 simp only
 have hne : (r != 0) = true := by simpa using h0
 generalize l.length = n at *
 go_enter Tryz.func64, Tryz.ntmps64
 go_wp2_with (first
  | (go_at_call 30; (with_reducible refine (fault_any _ (z, l) _ (HM.out.later (B := w.heap.size) (by go_grown) (Nat.le_refl _)) HK.out _ HR.out).mono ?_); rintro e w1 ⟨rfl, hb⟩; obtain ⟨s1, b1, hb1⟩ := boxed hb (by simp); have HB1 : Hid (Below w.heap.size w w1) := hb1; clear b1 hb1 hb))
 exact bodyPost_ret (v := .tuple #[.slice none 0 0, .int .i64 r]) (by simp [results, Tryz.results64, go_sem]) rfl ⟨rfl, HB1.out⟩
theorem place_any (v : Value) (ks : List Int) (x : Int) (w : World) (h : Nums w v ks) (hl : ks.length ≤ 4398046511104) (r : Int) (hr : placeI ks x = r) :
  Calls Tryz.prog 66 #[v, .int .i64 x] w fun e w' => e = .returned (.int .i64 r) ∧ w = w' := by
 subst hr
 obtain ⟨a, cap, rfl, hc⟩ := h.get
 have HC : Hid (∀ j, j < ks.length → ∃ b off, a = some ⟨b, off, none⟩ ∧ b < w.heap.size ∧ w.cell? ⟨b, off + j, none⟩ = some (.int .i64 (el ks j))) := hc
 clear h hc
 generalize hn : ks.length = n at *
 have HN : Hid (ks.length = n) := hn
 clear hn
 go_enter Tryz.func66, Tryz.ntmps66
 go_wp2
 go_loopw [5] (fun i wr => ∃ k : Nat, k ≤ n ∧ i = .int .i64 k ∧ Hid (∀ j, j < k → el ks j ≠ x) ∧ w = wr) (fun i _ => n - (intOf i).toNat)
 case atStart => exact ⟨0, Nat.zero_le _, rfl, fun j hj => absurd hj (Nat.not_lt_zero _), rfl⟩
 case round =>
  obtain ⟨k, hk, rfl, hno, rfl⟩ := hrel
  by_cases hlt : k < n
  ·obtain ⟨b, off, rfl, _, g0⟩ := HC.out k hlt
   have hk0 : (0 : Int) ≤ (k : Int) := by omega
   have hk1 : (k : Int) < (n : Int) := by omega
   by_cases he : el ks k = x
   ·have HP : Hid (placeI ks x = (k : Int)) := placeI_at (by rw [HN.out]; exact hlt) hno.out he
    rw [he] at g0
    clear he
    go_wp2
    go_ret
    exact ⟨by rw [HP.out]; rfl, rfl⟩
   ·have HX : Hid (∀ j, j < k + 1 → el ks j ≠ x) := fun j hj => by
     by_cases e : j = k
     ·subst e; exact he
     ·exact hno.out j (by omega)
    have hb : (el ks k == x) = false := by simpa using he
    go_wp2
    go_roundw
    case rel => exact ⟨k + 1, by omega, by go_num, HX, by first | trivial | rfl⟩
    case measure => simp [intOf]; omega
  ·have hnl : ¬ (k : Int) < (n : Int) := by omega
   have HP : Hid (placeI ks x = -1) := placeI_none (fun j hj => hno.out j (by rw [HN.out] at hj; omega))
   go_wp2
   go_ret
   exact ⟨by rw [HP.out]; rfl, rfl⟩
end Go.Proofs.YthajkkobgfighaaGreatDoor.Wt
