/- What the reference says is wrong with a machine. -/
import Derived.Test.YtkeeiihaijhdoaaFaa
import Derived.Test.YtkeeiihaijhdoaaFab
namespace Go.Proofs.Ytkeeiihaijhdoaa.Wt
open Go.ChangeShapes Go.WideShapes Go.ChangeAt Go.RowKit
open Go.Proofs.Ytkeeiihaijhdoaa.Pl
set_option linter.unusedVariables false
theorem refIn (n a b : Int) (r : Bool) (w : World) (h : inB n a b = r) : Calls Try.prog 40 #[.int .i64 n, .int .i64 a, .int .i64 b] w fun e w' => e = .returned (.bool r) ∧ w = w' := by
 subst h
 unfold inB
 go_enter Try.func40, Try.ntmps40
 go_wp2
 all_goals
  go_ret
  exact ⟨ret_boolK (by simp_all <;> intros <;> omega), by simp_all⟩
theorem refWeight (n : Int) (r : Bool) (w : World) (h : finB n = r) : Calls Try.prog 55 #[.int .i64 n] w fun e w' => e = .returned (.bool r) ∧ w = w' := by
 subst h
 by_cases hx : n = 1000000001
 ·subst hx
  go_enter Try.func55, Try.ntmps55
  go_wp2
  go_ret
  exact ⟨rfl, rfl⟩
 ·have hne : (n == 1000000001) = false := by simpa using hx
  have HE : Hid (finB n = inB n 0 1000000000) := by show _ = _; simp [finB, hx]
  clear hx
  go_enter Try.func55, Try.ntmps55
  go_wp2_with (first | (go_at_call 40; (with_reducible refine (refIn _ _ _ _ _ HE.out.symm).mono ?_); rintro e w' ⟨rfl, rfl⟩))
  go_ret
  exact ⟨rfl, rfl⟩
theorem arcCount_any (v : Value) (m : Mc) (w : World) (h : Mach w v m) (hok : okM m) (h60 : m.2.length ≤ 60) (q : Nat) (hq : arcN m.2 = q) :
  Calls Try.prog 54 #[v] w fun e w' => e = .returned (.int .i64 q) ∧ Below w.heap.size w w' := by
 subst hq
 obtain ⟨z, l⟩ := m
 obtain ⟨vs, rfl, hS⟩ := h
 obtain ⟨a, cap, rfl, hc⟩ := hS.get
 have hA := okM_arcs hok h60
 clear hS hok
 have HX : Hid (∀ k, arcN (l.take k) ≤ 60 * 4398046511104) := hA
 have HC : Hid (∀ j, j < l.length → ∃ b off va, a = some ⟨b, off, none⟩ ∧ b < w.heap.size ∧ w.cell? ⟨b, off + j * 2, none⟩ = some (.int .i64 (el l j).1) ∧ w.cell? ⟨b, off + j * 2 + 1, none⟩ = some va ∧ Arcs w va (el l j).2) := hc
 clear hA hc
 simp only at h60 ⊢
 generalize hn : l.length = n at *
 go_enter Try.func54, Try.ntmps54
 go_wp2
 go_loop [3, 4] (fun s i => ∃ k : Nat, k ≤ n ∧ i = .int .i64 k ∧ s = .int .i64 (arcN (l.take k))) (fun _ i => n - (intOf i).toNat)
 case atStart => exact ⟨0, Nat.zero_le _, rfl, rfl⟩
 case round =>
  obtain ⟨k, hk, rfl, rfl⟩ := hrel
  by_cases hlt : k < n
  ·obtain ⟨b, off, va, rfl, hb, g0, g1, gA⟩ := HC.out k hlt
   obtain ⟨a2, cap2, rfl⟩ := gA.sl
   have h1 := HX.out k
   have h2 := HX.out (k + 1)
   have HE : Hid (arcN (l.take (k + 1)) = arcN (l.take k) + (el l k).2.length) := arcN_take (by omega)
   rw [HE.out] at h2
   clear gA g0
   generalize arcN (l.take k) = s at *
   generalize (el l k).2.length = q at *
   go_wp2
   go_round
   case rel => exact ⟨k + 1, by omega, by go_num, by rw [HE.out]; go_num⟩
   case measure => simp [intOf]; omega
  ·have hke : k = n := by omega
   go_wp2
   go_ret
   refine ⟨ret_intK ?_, by go_grown⟩
   rw [← hn, List.take_length]
theorem arcB_parts {n : Nat} {a : Ar} : arcB n a = (inB a.1 0 1000 && inB a.2.1 0 1000 && inB a.2.2.1 0 1000000000 && inB a.2.2.2 0 ((n : Int) - 1)) := rfl
set_option maxHeartbeats 4000000 in
set_option maxRecDepth 100000 in
theorem fault_loop (z : Int) (a : Option Addr) (cap : Nat) (l : List St) (w : World) (h60 : l.length ≤ 60) (h400 : arcN l ≤ 400) (hok : okM (z, l)) (hz : inB z (-1) ((l.length : Int) - 1) = true) (hM : Mach w (.agg #[.int .i64 z, .slice a l.length cap]) (z, l))
  (hc : ∀ j, j < l.length → ∃ b off va, a = some ⟨b, off, none⟩ ∧ b < w.heap.size ∧ w.cell? ⟨b, off + j * 2, none⟩ = some (.int .i64 (el l j).1) ∧ w.cell? ⟨b, off + j * 2 + 1, none⟩ = some va ∧ Arcs w va (el l j).2) (r : Int) (hr : (if l.all (stB l.length) = true then (0 : Int) else 2) = r) :
  Calls Try.prog 31 #[.agg #[.int .i64 z, .slice a l.length cap]] w fun e w' => e = .returned (.int .i64 r) ∧ Below w.heap.size w w' := by
 have HM : Hid (Mach w (.agg #[.int .i64 z, .slice a l.length cap]) (z, l)) := hM
 have HC : Hid (∀ j, j < l.length → ∃ b off va, a = some ⟨b, off, none⟩ ∧ b < w.heap.size ∧ w.cell? ⟨b, off + j * 2, none⟩ = some (.int .i64 (el l j).1) ∧ w.cell? ⟨b, off + j * 2 + 1, none⟩ = some va ∧ Arcs w va (el l j).2) := hc
 have HK : Hid (okM (z, l)) := hok
 have HZ : Hid (inB z (-1) ((l.length : Int) - 1) = true) := hz
 have H60 : Hid (l.length ≤ 60) := h60
 have HF : Hid (∀ k, k < l.length → stB l.length (el l k) = false → r = 2) := fun k hk hs => by rw [← hr, all_false_el hk hs]; rfl
 have HT : Hid (l.all (stB l.length) = true → r = 0) := fun h => by rw [← hr, h]; rfl
 have HA : Hid (∀ k, k < l.length → (el l k).2.length ≤ 4398046511104) := fun k hk => by have := hok.2 k hk; simp only at this; omega
 clear hM hc hok hz hr
 generalize hq : arcN l = q at *
 have HQ : Hid (arcN l = q) := hq
 clear hq
 have h4 : ¬ (400 : Int) < (q : Int) := by omega
 generalize hn : l.length = n at *
 have HN : Hid (l.length = n) := hn
 clear hn
 have h6 : ¬ (60 : Int) < (n : Int) := by omega
 go_enter Try.func31, Try.ntmps31
 go_wp2_with (first
  | (go_at_call 54; ((with_reducible refine (arcCount_any _ (z, l) _ (HM.out.later (B := w.heap.size) (by go_grown) (Nat.le_refl _)) HK.out (by show l.length ≤ 60; rw [HN.out]; exact H60.out) q HQ.out).mono ?_); rintro e w1 ⟨rfl, hb⟩; obtain ⟨s1, b1, hb1⟩ := boxed hb (by simp); have c0 := b1.cell 0 (v := .int .i64 z) rfl; have c1 := b1.cell 1 (v := .slice a n cap) rfl; have HB : Hid (Below w.heap.size w w1) := hb1; have HB1 : Hid (Blk w1 w.heap.size #[.int .i64 z, .slice a n cap] 24) := b1; clear b1 hb1 hb))
  | (go_at_call 40; (with_reducible refine (refIn _ _ _ _ _ HZ.out).mono ?_); rintro e w' ⟨rfl, rfl⟩))
 have HZ1 := HB1
 clear HZ HM HK H60 HQ h4 h6 h400
 go_loopw [4] (fun i wr => ∃ k : Nat, k ≤ n ∧ i = .int .i64 k ∧ Hid ((l.take k).all (stB n) = true) ∧ Below (w.heap.size + 1) w1 wr) (fun i _ => n - (intOf i).toNat)
 case atStart => exact ⟨0, Nat.zero_le _, rfl, rfl, Below.refl _ _⟩
 case round =>
  clear c0 c1
  obtain ⟨k, hk, rfl, hok, hb⟩ := hrel
  have b2 := HB1.out.below hb (by omega)
  have c1 := b2.cell 1 (v := .slice a n cap) rfl
  by_cases hlt : k < n
  ·obtain ⟨b, off, va, rfl, hbl, g0, g1, gA⟩ := HC.out k hlt
   have hbw : Below w.heap.size w wr := HB.out.trans (hb.mono (by omega))
   have g0 := (hbw.cell (p := ⟨b, off + k * 2, none⟩) hbl).trans g0
   have g1 := (hbw.cell (p := ⟨b, off + k * 2 + 1, none⟩) hbl).trans g1
   have GA := gA.later hbw (Nat.le_refl _)
   obtain ⟨a2, cap2, rfl, hc2⟩ := GA.get
   have HC2 : Hid (∀ j, j < (el l k).2.length → ∃ b off, a2 = some ⟨b, off, none⟩ ∧ b < wr.heap.size ∧ wr.cell? ⟨b, off + j * 4, none⟩ = some (.int .i64 (el (el l k).2 j).1) ∧ wr.cell? ⟨b, off + j * 4 + 1, none⟩ = some (.int .i64 (el (el l k).2 j).2.1) ∧ wr.cell? ⟨b, off + j * 4 + 2, none⟩ = some (.int .i64 (el (el l k).2 j).2.2.1) ∧ wr.cell? ⟨b, off + j * 4 + 3, none⟩ = some (.int .i64 (el (el l k).2 j).2.2.2)) := hc2
   have hA := HA.out k hlt
   rcases bool_cases' (finB (el l k).1) with hf | hf
   ·have HFI : Hid (finB (el l k).1 = true) := hf
    have HS1 : Hid (∀ j, j < (el l k).2.length → arcB n (el (el l k).2 j) = false → r = 2) := fun j hj hs => HF.out k hlt (by simp only [stB, hf, all_false_el hj hs]; rfl)
    have HS2 : Hid ((el l k).2.all (arcB n) = true → (l.take (k + 1)).all (stB n) = true) := fun h => by rw [all_take_succ (by rw [HN.out]; exact hlt), hok.out]; simp only [stB, hf, h]; rfl
    clear hf hc2 gA GA b2 hok
    generalize (el l k).1 = f at *
    generalize (el l k).2 = ar at *
    generalize hm : ar.length = m at *
    have HMm : Hid (ar.length = m) := hm
    clear hm
    go_wp2_with (first | (go_at_call 55; (with_reducible refine (refWeight _ _ _ HFI.out).mono ?_); rintro e w' ⟨rfl, rfl⟩))
    clear g0 g1 c1
    go_loopw [6] (fun i ws => ∃ j : Nat, j ≤ m ∧ i = .int .i64 j ∧ Hid ((ar.take j).all (arcB n) = true) ∧ Below wr.heap.size wr ws) (fun i _ => m - (intOf i).toNat)
    case atStart => exact ⟨0, Nat.zero_le _, rfl, rfl, Below.refl _ _⟩
    case round =>
     obtain ⟨j, hj, rfl, hoj, hbj⟩ := hrel
     by_cases hjm : j < m
     ·obtain ⟨b2, off2, rfl, hbl2, r0, r1, r2, r3⟩ := HC2.out j hjm
      have r0 := (hbj.cell (p := ⟨b2, off2 + j * 4, none⟩) hbl2).trans r0
      have r1 := (hbj.cell (p := ⟨b2, off2 + j * 4 + 1, none⟩) hbl2).trans r1
      have r2 := (hbj.cell (p := ⟨b2, off2 + j * 4 + 2, none⟩) hbl2).trans r2
      have r3 := (hbj.cell (p := ⟨b2, off2 + j * 4 + 3, none⟩) hbl2).trans r3
      have HBW : Hid (Below w.heap.size w wr) := hbw.trans (hbj.mono hbw.size)
      have HE := arcB_parts (n := n) (a := el ar j)
      rcases bool_cases' (arcB n (el ar j)) with ha | ha
      ·have HO : Hid ((ar.take (j + 1)).all (arcB n) = true) := by show _ = _; rw [all_take_succ (by rw [HMm.out]; exact hjm), hoj.out, ha]; rfl
       rw [ha] at HE
       simp only [Bool.true_eq, Bool.and_eq_true] at HE
       obtain ⟨⟨⟨e1, e2⟩, e3⟩, e4⟩ := HE
       have E1 : Hid (inB (el ar j).1 0 1000 = true) := e1
       have E2 : Hid (inB (el ar j).2.1 0 1000 = true) := e2
       have E3 : Hid (inB (el ar j).2.2.1 0 1000000000 = true) := e3
       have E4 : Hid (inB (el ar j).2.2.2 0 ((n : Int) - 1) = true) := e4
       clear ha e1 e2 e3 e4 hoj
       generalize el ar j = p at *
       obtain ⟨p0, p1, p2, p3⟩ := p
       simp only at r0 r1 r2 r3 E1 E2 E3 E4
       go_wp2_with (first | (go_at_call 40; (with_reducible refine (refIn _ _ _ _ _ E1.out).mono ?_); rintro e w' ⟨rfl, rfl⟩) | (go_at_call 40; (with_reducible refine (refIn _ _ _ _ _ E2.out).mono ?_); rintro e w' ⟨rfl, rfl⟩) | (go_at_call 40; (with_reducible refine (refIn _ _ _ _ _ E3.out).mono ?_); rintro e w' ⟨rfl, rfl⟩) | (go_at_call 40; (with_reducible refine (refIn _ _ _ _ _ E4.out).mono ?_); rintro e w' ⟨rfl, rfl⟩))
       go_roundw
       case rel => exact ⟨j + 1, by omega, by go_num, HO, hbj.alloc hbj.size _⟩
       case measure => simp [intOf]; omega
      ·have HR : Hid (r = 2) := HS1.out j hjm ha
       rcases bool_cases' (inB (el ar j).1 0 1000) with e1 | e1
       rotate_left
       ·have E1 : Hid (inB (el ar j).1 0 1000 = false) := e1
        clear ha HE e1 hoj
        generalize el ar j = p at *
        obtain ⟨p0, p1, p2, p3⟩ := p
        simp only at r0 r1 r2 r3 E1
        go_wp2_with (first | (go_at_call 40; (with_reducible refine (refIn _ _ _ _ _ E1.out).mono ?_); rintro e w' ⟨rfl, rfl⟩))
        go_ret
        exact ⟨ret_intK HR.out.symm, HBW.out.alloc HBW.out.size _⟩
       rcases bool_cases' (inB (el ar j).2.1 0 1000) with e2 | e2
       rotate_left
       ·have E1 : Hid (inB (el ar j).1 0 1000 = true) := e1
        have E2 : Hid (inB (el ar j).2.1 0 1000 = false) := e2
        clear ha HE e1 e2 hoj
        generalize el ar j = p at *
        obtain ⟨p0, p1, p2, p3⟩ := p
        simp only at r0 r1 r2 r3 E1 E2
        go_wp2_with (first | (go_at_call 40; (with_reducible refine (refIn _ _ _ _ _ E1.out).mono ?_); rintro e w' ⟨rfl, rfl⟩) | (go_at_call 40; (with_reducible refine (refIn _ _ _ _ _ E2.out).mono ?_); rintro e w' ⟨rfl, rfl⟩))
        go_ret
        exact ⟨ret_intK HR.out.symm, HBW.out.alloc HBW.out.size _⟩
       rcases bool_cases' (inB (el ar j).2.2.1 0 1000000000) with e3 | e3
       rotate_left
       ·have E1 : Hid (inB (el ar j).1 0 1000 = true) := e1
        have E2 : Hid (inB (el ar j).2.1 0 1000 = true) := e2
        have E3 : Hid (inB (el ar j).2.2.1 0 1000000000 = false) := e3
        clear ha HE e1 e2 e3 hoj
        generalize el ar j = p at *
        obtain ⟨p0, p1, p2, p3⟩ := p
        simp only at r0 r1 r2 r3 E1 E2 E3
        go_wp2_with (first | (go_at_call 40; (with_reducible refine (refIn _ _ _ _ _ E1.out).mono ?_); rintro e w' ⟨rfl, rfl⟩) | (go_at_call 40; (with_reducible refine (refIn _ _ _ _ _ E2.out).mono ?_); rintro e w' ⟨rfl, rfl⟩) | (go_at_call 40; (with_reducible refine (refIn _ _ _ _ _ E3.out).mono ?_); rintro e w' ⟨rfl, rfl⟩))
        go_ret
        exact ⟨ret_intK HR.out.symm, HBW.out.alloc HBW.out.size _⟩
       have e4 : inB (el ar j).2.2.2 0 ((n : Int) - 1) = false := by rw [ha, e1, e2, e3] at HE; simpa using HE.symm
       have E1 : Hid (inB (el ar j).1 0 1000 = true) := e1
       have E2 : Hid (inB (el ar j).2.1 0 1000 = true) := e2
       have E3 : Hid (inB (el ar j).2.2.1 0 1000000000 = true) := e3
       have E4 : Hid (inB (el ar j).2.2.2 0 ((n : Int) - 1) = false) := e4
       clear ha HE e1 e2 e3 e4 hoj
       generalize el ar j = p at *
       obtain ⟨p0, p1, p2, p3⟩ := p
       simp only at r0 r1 r2 r3 E1 E2 E3 E4
       go_wp2_with (first | (go_at_call 40; (with_reducible refine (refIn _ _ _ _ _ E1.out).mono ?_); rintro e w' ⟨rfl, rfl⟩) | (go_at_call 40; (with_reducible refine (refIn _ _ _ _ _ E2.out).mono ?_); rintro e w' ⟨rfl, rfl⟩) | (go_at_call 40; (with_reducible refine (refIn _ _ _ _ _ E3.out).mono ?_); rintro e w' ⟨rfl, rfl⟩) | (go_at_call 40; (with_reducible refine (refIn _ _ _ _ _ E4.out).mono ?_); rintro e w' ⟨rfl, rfl⟩))
       go_ret
       exact ⟨ret_intK HR.out.symm, HBW.out.alloc HBW.out.size _⟩
     ·have hje : j = m := by omega
      have HO : Hid ((l.take (k + 1)).all (stB n) = true) := HS2.out (by have h := hoj.out; rw [hje, ← HMm.out, List.take_length] at h; exact h)
      have hnl : ¬ (j : Int) < (m : Int) := by omega
      have HBB : Hid (Below (w.heap.size + 1) w1 wr) := hb.trans (hbj.mono (Nat.le_trans s1 hb.size))
      clear hje hoj hjm HC2
      go_wp2
      go_roundw
      case rel => exact ⟨k + 1, by omega, by go_num, HO, HBB.out⟩
      case measure => simp [intOf]; omega
   ·have HFI : Hid (finB (el l k).1 = false) := hf
    have HR : Hid (r = 2) := HF.out k hlt (by simp only [stB, hf]; rfl)
    clear hf hc2 gA GA b2 hok HC2
    generalize (el l k).1 = f at *
    generalize (el l k).2.length = m at *
    go_wp2_with (first | (go_at_call 55; (with_reducible refine (refWeight _ _ _ HFI.out).mono ?_); rintro e w' ⟨rfl, rfl⟩))
    go_ret
    exact ⟨ret_intK HR.out.symm, hbw⟩
  ·have hke : k = n := by omega
   have HR : Hid (r = 0) := HT.out (by have h := hok.out; rw [hke, ← HN.out, List.take_length] at h; rw [← HN.out]; exact h)
   have hnl : ¬ (k : Int) < (n : Int) := by omega
   clear hke hok hlt b2
   go_wp2
   go_ret
   exact ⟨ret_intK HR.out.symm, HB.out.trans (hb.mono (by omega))⟩
theorem fault_any (v : Value) (m : Mc) (w : World) (h : Mach w v m) (hok : okM m) (r : Int) (hr : faultM m = r) :
  Calls Try.prog 31 #[v] w fun e w' => e = .returned (.int .i64 r) ∧ Below w.heap.size w w' := by
 obtain ⟨z, l⟩ := m
 obtain ⟨vs, rfl, hS⟩ := h
 obtain ⟨a, cap, rfl, hc⟩ := hS.get
 have hM : Mach w (.agg #[.int .i64 z, .slice a l.length cap]) (z, l) := ⟨_, rfl, hS⟩
 by_cases h60 : l.length ≤ 60
 ·by_cases h400 : arcN l ≤ 400
  ·have hsz : sizeB (z, l) = true := by simp [sizeB, h60, h400]
   rcases bool_cases' (inB z (-1) ((l.length : Int) - 1)) with hz | hz
   ·refine fault_loop z a cap l w h60 h400 hok hz hM hc r ?_
    rw [← hr]
    unfold faultM rangeB
    rw [if_pos hsz]
    simp only
    rw [hz, Bool.true_and]
   ·have HR : Hid (r = 2) := by show _ = _; rw [← hr]; simp [faultM, hsz, rangeB, hz]
    have HM : Hid (Mach w (.agg #[.int .i64 z, .slice a l.length cap]) (z, l)) := hM
    have HK : Hid (okM (z, l)) := hok
    have HZ : Hid (inB z (-1) ((l.length : Int) - 1) = false) := hz
    have H60 : Hid (l.length ≤ 60) := h60
    clear hM hc hok hz hr hsz hS
    generalize hq : arcN l = q at *
    have HQ : Hid (arcN l = q) := hq
    clear hq
    have h4 : ¬ (400 : Int) < (q : Int) := by omega
    generalize hn : l.length = n at *
    have HN : Hid (l.length = n) := hn
    clear hn
    have h6 : ¬ (60 : Int) < (n : Int) := by omega
    go_enter Try.func31, Try.ntmps31
    go_wp2_with (first
     | (go_at_call 54; (with_reducible refine (arcCount_any _ (z, l) _ (HM.out.later (B := w.heap.size) (by go_grown) (Nat.le_refl _)) HK.out (by show l.length ≤ 60; rw [HN.out]; exact H60.out) q HQ.out).mono ?_); rintro e w1 ⟨rfl, hb⟩; obtain ⟨s1, b1, hb1⟩ := boxed hb (by simp); have c0 := b1.cell 0 (v := .int .i64 z) rfl; have HB : Hid (Below w.heap.size w w1) := hb1; clear b1 hb1 hb)
     | (go_at_call 40; (with_reducible refine (refIn _ _ _ _ _ HZ.out).mono ?_); rintro e w' ⟨rfl, rfl⟩))
    go_ret
    exact ⟨ret_intK HR.out.symm, HB.out⟩
  ·have HR : Hid (r = 1) := by show _ = _; rw [← hr]; exact faultM_size (by simp [sizeB]; omega)
   have HM : Hid (Mach w (.agg #[.int .i64 z, .slice a l.length cap]) (z, l)) := hM
   have HK : Hid (okM (z, l)) := hok
   have H60 : Hid (l.length ≤ 60) := h60
   clear hM hc hok hr hS
   generalize hq : arcN l = q at *
   have HQ : Hid (arcN l = q) := hq
   clear hq
   have h4 : (400 : Int) < (q : Int) := by omega
   generalize hn : l.length = n at *
   have HN : Hid (l.length = n) := hn
   clear hn
   have h6 : ¬ (60 : Int) < (n : Int) := by omega
   go_enter Try.func31, Try.ntmps31
   go_wp2_with (first
    | (go_at_call 54; (with_reducible refine (arcCount_any _ (z, l) _ (HM.out.later (B := w.heap.size) (by go_grown) (Nat.le_refl _)) HK.out (by show l.length ≤ 60; rw [HN.out]; exact H60.out) q HQ.out).mono ?_); rintro e w1 ⟨rfl, hb⟩; obtain ⟨s1, b1, hb1⟩ := boxed hb (by simp); have HB : Hid (Below w.heap.size w w1) := hb1; clear b1 hb1 hb))
   go_ret
   exact ⟨ret_intK HR.out.symm, HB.out⟩
 ·have HR : Hid (r = 1) := by show _ = _; rw [← hr]; exact faultM_size (by simp [sizeB]; omega)
  have h6 : (60 : Int) < (l.length : Int) := by omega
  clear hM hc hok hr hS
  go_enter Try.func31, Try.ntmps31
  go_wp2
  go_ret
  exact ⟨ret_intK HR.out.symm, by go_grown⟩
end Go.Proofs.Ytkeeiihaijhdoaa.Wt
