/- The reference's RunMay. -/
import Derived.Test.YtkeeiihaijhdoaaFae
import Derived.Test.YtkeeiihaijhdoaaFap
import Derived.Test.YtkeeiihaijhdoaaFai
namespace Go.Proofs.Ytkeeiihaijhdoaa.Sm
open Go.ChangeShapes Go.WideShapes Go.ChangeAt Go.RowKit
open Go.Proofs.Ytkeeiihaijhdoaa.Pl Go.Proofs.Ytkeeiihaijhdoaa.Wt
set_option linter.unusedVariables false
set_option linter.unusedSimpArgs false
theorem refInQ (n a b : Int) (r : Bool) (w : World) (h : inB n a b = r) : Calls Try.prog 40 #[.int .i64 n, .int .i64 a, .int .i64 b] w fun e w' => e = .returned (.bool r) ∧ ∃ q, w' = w.drewN q :=
 (refIn n a b r w h).mono fun e w' ⟨h1, h2⟩ => ⟨h1, 0, by rw [← h2]; exact (World.drewN_zero _).symm⟩
def okAt (n : Int) (l : List Mk) (j : Nat) : Prop := 0 ≤ (el l j).1 ∧ (el l j).1 < n ∧ (0 < j → (el l (j - 1)).1 < (el l j).1) ∧ mkB (el l j) = true
theorem ris_of {n : Int} : ∀ {l : List Mk} {b : Int}, (∀ j, j < l.length → (el l j).1 < n ∧ (0 < j → (el l (j - 1)).1 < (el l j).1)) → (0 < l.length → b ≤ (el l 0).1) → risB n b l = true
  | [], b, _, _ => rfl
  | k :: l, b, h, hb => by
    have h0 := h 0 (by simp)
    have hb0 := hb (by simp)
    rw [el_zero] at h0 hb0
    simp only [risB, Bool.and_eq_true, decide_eq_true_eq]
    refine ⟨⟨hb0, h0.1⟩, ris_of (fun j hj => ?_) (fun h9 => ?_)⟩
    · have h1 := h (j + 1) (by simpa using hj)
      rw [el_succ] at h1
      refine ⟨h1.1, fun hj0 => ?_⟩
      have h2 := h1.2 (by omega)
      rwa [show j + 1 - 1 = (j - 1) + 1 by omega, el_succ] at h2
    · have h1 := (h 1 (by simpa using h9)).2 (by omega)
      rw [el_succ, show 1 - 1 = 0 from rfl, el_zero] at h1
      omega
theorem runB_of {n f : Int} {l : List Mk} (hf : inB f 0 12 = true) (h : ∀ j, j < l.length → okAt n l j) : runB n (f, l) = true := by
 have h1 : risB n 0 l = true := ris_of (fun j hj => ⟨(h j hj).2.1, (h j hj).2.2.1⟩) fun h9 => (h 0 h9).1
 have h2 : l.all mkB = true := by
  rw [List.all_eq_true]
  intro k hk
  obtain ⟨j, hj, rfl⟩ := List.getElem_of_mem hk
  rw [← el_get hj]
  exact (h j hj).2.2.2
 simp [runB, hf, h1, h2]
theorem runB_not {n f : Int} {l : List Mk} {j : Nat} (hj : j < l.length) (h : ¬ okAt n l j) : runB n (f, l) = false := by
 rw [← Bool.not_eq_true]
 intro h2
 refine h ?_
 simp only [runB, Bool.and_eq_true] at h2
 have h3 := risB_el h2.1.2 j hj
 refine ⟨h3.1, h3.2, fun h0 => risB_up h2.1.2 _ _ (by omega) hj, List.all_eq_true.1 h2.2 _ (el_mem hj)⟩
set_option maxRecDepth 100000 in
set_option maxHeartbeats 4000000 in
theorem runMay_any (v vr : Value) (m : Mc) (r : Ru) (w : World) (h : Mach w v m) (hok : okM m) (hr : RunV w vr r) (hou : okU r) (h60 : m.2.length ≤ 60) (x : Bool) (hx : runB m.2.length r = x) :
  Calls Try.prog 39 #[v, vr] w fun e w' => e = .returned (.bool x) ∧ Below w.heap.size w w' := by
 obtain ⟨z, l⟩ := m
 obtain ⟨vs, rfl, hS⟩ := h
 obtain ⟨a, cap, rfl⟩ := hS.sl
 obtain ⟨f, ml⟩ := r
 obtain ⟨vm, rfl, hMk⟩ := hr
 obtain ⟨am, cm, rfl, hc⟩ := hMk.get
 have HC : Hid (∀ j, j < ml.length → ∃ b off vo, am = some ⟨b, off, none⟩ ∧ b < w.heap.size ∧ w.cell? ⟨b, off + j * 3, none⟩ = some (.int .i64 (el ml j).1) ∧ w.cell? ⟨b, off + j * 3 + 1, none⟩ = some (.int .i64 (el ml j).2.1) ∧ w.cell? ⟨b, off + j * 3 + 2, none⟩ = some vo ∧ Nums w vo (el ml j).2.2) := hc
 have hL40 : ml.length * 40 ≤ 140737488351232 := hou.1
 have HO8 : Hid (∀ j, j < ml.length → (el ml j).2.2.length * 8 ≤ 140737488351232) := hou.2
 clear hS hok hou hMk hc
 simp only at h60 hx hL40 HO8 ⊢
 have HNot : Hid (∀ j, j < ml.length → ¬ okAt l.length ml j → x = false) := fun j hj h => by rw [← hx]; exact runB_not hj h
 have HAll : Hid (inB f 0 12 = true → (∀ j, j < ml.length → okAt l.length ml j) → x = true) := fun h1 h2 => by rw [← hx]; exact runB_of h1 h2
 have HF0 : Hid (inB f 0 12 = false → x = false) := fun h1 => by rw [← hx]; simp [runB, h1]
 have HOK : Hid (∀ j, okAt l.length ml j ↔ 0 ≤ (el ml j).1 ∧ (el ml j).1 < l.length ∧ (0 < j → (el ml (j - 1)).1 < (el ml j).1) ∧ mkB (el ml j) = true) := fun j => Iff.rfl
 have hnot : ∀ (x : Bool) (w : World), (Op.unary .not (.bool x)).run Try.prog w = .ok (.bool (!x)) w := fun _ _ => rfl
 have HU : Hid (Below w.heap.size w ((w.alloc (.cells #[.int .i64 z, .slice a l.length cap] 24)).alloc (.cells #[.int .i64 f, .slice am ml.length cm] 28))) := by show Below _ _ _; go_grown
 clear hx
 by_cases hf : inB f 0 12 = true
 ·have HFI := hidP hf
  have HA2 : Hid ((∀ j, j < ml.length → okAt l.length ml j) → x = true) := HAll.out hf
  clear hf HAll HF0
  generalize ml.length = L at *
  generalize l.length = n at *
  generalize okAt (n : Int) ml = OK at *
  go_enter Try.func39, Try.ntmps39
  go_wp2_with (first
   | (go_at_call 40; (with_reducible refine (refIn _ _ _ true _ HFI.out).mono ?_); rintro e w1 ⟨rfl, rfl⟩))
  go_loopw [5] (fun i wr => ∃ k : Nat, k ≤ L ∧ i = .int .i64 k ∧ Hid (∀ j, j < k → OK j) ∧ Hid (Blk wr w.heap.size #[.int .i64 z, .slice a n cap] 24) ∧ Hid (Blk wr (w.heap.size + 1) #[.int .i64 f, .slice am L cm] 28) ∧ w.heap.size + 2 ≤ wr.heap.size ∧ Hid (Below w.heap.size w wr)) (fun i _ => L - (intOf i).toNat)
  case atStart => exact ⟨0, Nat.zero_le _, rfl, (by intro j hj; omega), (Blk.made w _ _).alloc _, by (have h := Blk.made (w.alloc (.cells #[.int .i64 z, .slice a n cap] 24)) #[.int .i64 f, .slice am L cm] 28; simp only [World.size_alloc] at h; exact h), by simp, HU.out⟩
  case round =>
   obtain ⟨k, hk, rfl, hpre, bM, bR, hs, hb⟩ := hrel
   have m1 := bM.out.cell 1 (v := .slice a n cap) rfl
   have u1 := bR.out.cell 1 (v := .slice am L cm) rfl
   have z0 : w.heap.size < wr.heap.size := by omega
   have z1 : w.heap.size + 1 < wr.heap.size := by omega
   by_cases hlt : k < L
   ·have HOk := hidP (HOK.out k)
    have HNk := hidP (HNot.out k hlt)
    have h8 := HO8.out k hlt
    have hprev : 0 < k → ∃ b off, am = some ⟨b, off, none⟩ ∧ b < w.heap.size ∧ w.cell? ⟨b, off + (k - 1) * 3, none⟩ = some (.int .i64 (el ml (k - 1)).1) := fun h0 => by
     obtain ⟨b, off, vo, h1, h2, h3, _⟩ := HC.out (k - 1) (by omega)
     exact ⟨b, off, h1, h2, h3⟩
    obtain ⟨b, off, vi, rfl, hbl, g0, g1, g2, hN⟩ := HC.out k hlt
    have hprev2 : 0 < k → w.cell? ⟨b, off + (k - 1) * 3, none⟩ = some (.int .i64 (el ml (k - 1)).1) := fun h0 => by
     obtain ⟨b', off', h1, _, h3⟩ := hprev h0
     simp only [Option.some.injEq, Addr.mk.injEq] at h1
     obtain ⟨rfl, rfl, _⟩ := h1
     exact h3
    clear hprev
    have g0 := (hb.out.cell (p := ⟨b, off + k * 3, none⟩) hbl).trans g0
    have g1 := (hb.out.cell (p := ⟨b, off + k * 3 + 1, none⟩) hbl).trans g1
    have g2 := (hb.out.cell (p := ⟨b, off + k * 3 + 2, none⟩) hbl).trans g2
    have HPV : Hid (0 < k → wr.cell? ⟨b, off + (k - 1) * 3, none⟩ = some (.int .i64 (el ml (k - 1)).1)) := fun h0 => (hb.out.cell (p := ⟨b, off + (k - 1) * 3, none⟩) hbl).trans (hprev2 h0)
    obtain ⟨ao, co, rfl⟩ := Row.sl hN
    have HN : Hid (Nums wr (.slice ao (el ml k).2.2.length co) (el ml k).2.2) := hN.later hb.out (Nat.le_refl _)
    have hk0 : (0 : Int) ≤ (k : Int) := by omega
    have hk1 : (k : Int) < (L : Int) := by omega
    have zb : b < wr.heap.size := Nat.lt_of_lt_of_le hbl hb.out.size
    clear hN hbl hprev2
    generalize (el ml (k - 1)).1 = pv at *
    generalize el ml k = p at *
    obtain ⟨p0, p1, p2⟩ := p
    simp only at g0 g1 g2 HOk h8 HN
    have HU2 : Hid (Below wr.heap.size wr (wr.alloc (.cells #[.int .i64 p0, .int .i64 p1, .slice ao p2.length co] 67))) := by show Below _ _ _; go_grown
    by_cases hp : inB p0 0 ((n : Int) - 1) = true
    ·have HP := hidP hp
     have hpi : 0 ≤ p0 ∧ p0 < n := by simp [inB] at hp; omega
     have HPI := hidP hpi
     clear hp hpi
     have ways : k = 0 ∨ (0 < k ∧ p0 ≤ pv) ∨ (0 < k ∧ ¬ p0 ≤ pv) := by omega
     rcases ways with h0 | ⟨h0, h1⟩ | ⟨h0, h1⟩
     ·have hkz : ¬ (0 : Int) < (k : Int) := by omega
      have hkz' : ¬ 0 < k := by omega
      have hkz2 : decide ((k : Int) > 0) = false := by simp; omega
      have HPr : Hid (0 < k → pv < p0) := fun h => by omega
      clear HPV h0
      go_wp2
      go_quiet (first | (go_at_call 40; (with_reducible refine Calls.quiet_of (refInQ _ _ _ true _ HP.out))))
      have HB3 : Hid (Below w.heap.size w ((wr.alloc (.cells #[.int .i64 p0, .int .i64 p1, .slice ao p2.length co] 67)).drewN nq)) := below_drewN (hb.out.trans (HU2.out.mono hb.out.size)) _
      have bM3 : Hid (Blk ((wr.alloc (.cells #[.int .i64 p0, .int .i64 p1, .slice ao p2.length co] 67)).drewN nq) w.heap.size #[.int .i64 z, .slice a n cap] 24) := (bM.out.alloc _).drewN _
      have bR3 : Hid (Blk ((wr.alloc (.cells #[.int .i64 p0, .int .i64 p1, .slice ao p2.length co] 67)).drewN nq) (w.heap.size + 1) #[.int .i64 f, .slice (some ⟨b, off, none⟩) L cm] 28) := (bR.out.alloc _).drewN _
      by_cases hw9 : inB p1 0 1000000000 = true
      ·have HW9 := hidP hw9
       by_cases hl8 : p2.length ≤ 800
       ·have hl8' : ¬ (800 : Int) < (p2.length : Int) := by omega
        have HMB : Hid (mkB (p0, p1, p2) = labB p2) := by show _ = _; simp [mkB, hw9, hl8]
        have HFin : Hid (labB p2 = true → OK k) := fun h9 => HOk.out.2 ⟨HPI.out.1, HPI.out.2, HPr.out, by rw [HMB.out]; exact h9⟩
        have HFalse : Hid (labB p2 = false → x = false) := fun h9 => HNk.out fun h8 => by have h7 := (HOk.out.1 h8).2.2.2; rw [HMB.out, h9] at h7; cases h7
        have HS : Hid (∀ k, k < p2.length → labB (p2.drop k) = (inB (el p2 k) 1 1000 && labB (p2.drop (k + 1)))) := fun k hk => labB_drop hk
        have HE : Hid (labB (p2.drop p2.length) = true) := by rw [List.drop_length]; rfl
        have HG : Hid (labB p2 = labB (p2.drop 0)) := rfl
        obtain ⟨aq, cq, hvq, hcq⟩ := HN.out.get
        simp only [Value.slice.injEq, true_and] at hvq
        obtain ⟨rfl, rfl⟩ := hvq
        have HCQ : Hid (∀ j, j < p2.length → ∃ b off, ao = some ⟨b, off, none⟩ ∧ b < wr.heap.size ∧ wr.cell? ⟨b, off + j, none⟩ = some (.int .i64 (el p2 j))) := hcq
        clear hcq hw9 hl8 HMB HNk HOk HN
        generalize labB p2 = lb at *
        generalize p2.length = n2 at *
        go_wp2_with (first
         | (go_at_call 40; (with_reducible refine (refIn _ _ _ true _ HW9.out).mono ?_); rintro e w1 ⟨rfl, rfl⟩))
        go_loop [7] (fun i => ∃ k2 : Nat, k2 ≤ n2 ∧ i = .int .i64 k2 ∧ Hid (lb = labB (p2.drop k2))) (fun i => n2 - (intOf i).toNat)
        case atStart => exact ⟨0, Nat.zero_le _, rfl, HG⟩
        case round =>
         clear HG
         obtain ⟨k2, hk2, rfl, hg⟩ := hrel
         by_cases hlt2 : k2 < n2
         ·have hk20 : (0 : Int) ≤ (k2 : Int) := by omega
          have hk21 : (k2 : Int) < (n2 : Int) := by omega
          obtain ⟨b2, off2, rfl, hb2, e0⟩ := HCQ.out k2 hlt2
          have e0 := (HU2.out.cell (p := ⟨b2, off2 + k2, none⟩) hb2).trans e0
          have HLk : Hid (lb = (inB (el p2 k2) 1 1000 && labB (p2.drop (k2 + 1)))) := by show lb = _; rw [hg.out, HS.out k2 hlt2]
          clear hg
          generalize el p2 k2 = y at *
          by_cases hy : inB y 1 1000 = true
          ·have HLn : Hid (lb = labB (p2.drop (k2 + 1))) := by show lb = _; rw [HLk.out, hy, Bool.true_and]
           have HY := hidP hy
           clear HLk hy
           go_wp2_with (first
            | (go_at_call 40; (with_reducible refine (refIn _ _ _ true _ HY.out).mono ?_); rintro e w1 ⟨rfl, rfl⟩))
           go_round
           case rel => exact ⟨k2 + 1, by omega, by go_num, HLn⟩
           case measure => simp [intOf]; omega
          ·have hy0 : inB y 1 1000 = false := by simpa using hy
           have hx0 : x = false := HFalse.out (by rw [HLk.out, hy0, Bool.false_and])
           have HY := hidP hy0
           subst hx0
           clear HLk hy hy0
           go_wp2_with (first
            | (go_at_call 40; (with_reducible refine (refIn _ _ _ false _ HY.out).mono ?_); rintro e w1 ⟨rfl, rfl⟩))
           go_ret
           exact ⟨rfl, HB3.out⟩
         ·have hnl2 : ¬ (k2 : Int) < (n2 : Int) := by omega
          have hkn2 : k2 = n2 := by omega
          have HOkk : Hid (OK k) := HFin.out (by rw [hg.out, hkn2, HE.out])
          clear hg
          go_wp2
          go_roundw
          case rel => exact ⟨k + 1, by omega, by go_num, (by intro j hj; rcases Nat.lt_or_ge j k with g | g; exact hpre.out j g; rw [show j = k by omega]; exact HOkk.out), bM3, bR3, by simp; omega, HB3⟩
          case measure => simp [intOf]; omega
       ·have hl8' : (800 : Int) < (p2.length : Int) := by omega
        have hx0 : x = false := HNk.out (fun h9 => by have h7 := (HOk.out.1 h9).2.2.2; simp [mkB] at h7; omega)
        subst hx0
        clear hw9
        go_wp2_with (first
         | (go_at_call 40; (with_reducible refine (refIn _ _ _ true _ HW9.out).mono ?_); rintro e w1 ⟨rfl, rfl⟩))
        go_ret
        exact ⟨rfl, HB3.out⟩
      ·have hw0 : inB p1 0 1000000000 = false := by simpa using hw9
       have hx0 : x = false := HNk.out (fun h9 => by have h7 := (HOk.out.1 h9).2.2.2; simp [mkB, hw0] at h7)
       have HW9 := hidP hw0
       subst hx0
       clear hw9 hw0
       go_wp2_with (first
        | (go_at_call 40; (with_reducible refine (refIn _ _ _ false _ HW9.out).mono ?_); rintro e w1 ⟨rfl, rfl⟩))
       go_ret
       exact ⟨rfl, HB3.out⟩
     ·have hx0 : x = false := HNk.out (fun h9 => by have := (HOk.out.1 h9).2.2.1 h0; omega)
      subst hx0
      have q0 := HPV.out h0
      have hkz : (0 : Int) < (k : Int) := by omega
      have hkm : (0 : Int) ≤ (k : Int) - 1 := by omega
      have hkn : (k : Int) - 1 < (L : Int) := by omega
      obtain ⟨k', rfl⟩ : ∃ k', k = k' + 1 := ⟨k - 1, by omega⟩
      simp only [Nat.add_sub_cancel] at q0
      go_wp2
      go_quiet (first | (go_at_call 40; (with_reducible refine Calls.quiet_of (refInQ _ _ _ true _ HP.out))))
      go_wp2
      go_ret
      exact ⟨rfl, below_drewN (hb.out.trans (HU2.out.mono hb.out.size)) _⟩
     ·have HPr : Hid (0 < k → pv < p0) := fun h => by omega
      have q0 := HPV.out h0
      have hkz : (0 : Int) < (k : Int) := by omega
      have hkm : (0 : Int) ≤ (k : Int) - 1 := by omega
      have hkn : (k : Int) - 1 < (L : Int) := by omega
      have hle9 : ¬ p0 ≤ pv := h1
      obtain ⟨k', rfl⟩ : ∃ k', k = k' + 1 := ⟨k - 1, by omega⟩
      simp only [Nat.add_sub_cancel] at q0
      clear HPV h0
      go_wp2
      go_quiet (first | (go_at_call 40; (with_reducible refine Calls.quiet_of (refInQ _ _ _ true _ HP.out))))
      have HB3 : Hid (Below w.heap.size w ((wr.alloc (.cells #[.int .i64 p0, .int .i64 p1, .slice ao p2.length co] 67)).drewN nq)) := below_drewN (hb.out.trans (HU2.out.mono hb.out.size)) _
      have bM3 : Hid (Blk ((wr.alloc (.cells #[.int .i64 p0, .int .i64 p1, .slice ao p2.length co] 67)).drewN nq) w.heap.size #[.int .i64 z, .slice a n cap] 24) := (bM.out.alloc _).drewN _
      have bR3 : Hid (Blk ((wr.alloc (.cells #[.int .i64 p0, .int .i64 p1, .slice ao p2.length co] 67)).drewN nq) (w.heap.size + 1) #[.int .i64 f, .slice (some ⟨b, off, none⟩) L cm] 28) := (bR.out.alloc _).drewN _
      by_cases hw9 : inB p1 0 1000000000 = true
      ·have HW9 := hidP hw9
       by_cases hl8 : p2.length ≤ 800
       ·have hl8' : ¬ (800 : Int) < (p2.length : Int) := by omega
        have HMB : Hid (mkB (p0, p1, p2) = labB p2) := by show _ = _; simp [mkB, hw9, hl8]
        have HFin : Hid (labB p2 = true → OK (k' + 1)) := fun h9 => HOk.out.2 ⟨HPI.out.1, HPI.out.2, HPr.out, by rw [HMB.out]; exact h9⟩
        have HFalse : Hid (labB p2 = false → x = false) := fun h9 => HNk.out fun h8 => by have h7 := (HOk.out.1 h8).2.2.2; rw [HMB.out, h9] at h7; cases h7
        have HS : Hid (∀ k, k < p2.length → labB (p2.drop k) = (inB (el p2 k) 1 1000 && labB (p2.drop (k + 1)))) := fun k hk => labB_drop hk
        have HE : Hid (labB (p2.drop p2.length) = true) := by rw [List.drop_length]; rfl
        have HG : Hid (labB p2 = labB (p2.drop 0)) := rfl
        obtain ⟨aq, cq, hvq, hcq⟩ := HN.out.get
        simp only [Value.slice.injEq, true_and] at hvq
        obtain ⟨rfl, rfl⟩ := hvq
        have HCQ : Hid (∀ j, j < p2.length → ∃ b off, ao = some ⟨b, off, none⟩ ∧ b < wr.heap.size ∧ wr.cell? ⟨b, off + j, none⟩ = some (.int .i64 (el p2 j))) := hcq
        clear hcq hw9 hl8 HMB HNk HOk HN
        generalize labB p2 = lb at *
        generalize p2.length = n2 at *
        go_wp2_with (first
         | (go_at_call 40; (with_reducible refine (refIn _ _ _ true _ HW9.out).mono ?_); rintro e w1 ⟨rfl, rfl⟩))
        go_loop [7] (fun i => ∃ k2 : Nat, k2 ≤ n2 ∧ i = .int .i64 k2 ∧ Hid (lb = labB (p2.drop k2))) (fun i => n2 - (intOf i).toNat)
        case atStart => exact ⟨0, Nat.zero_le _, rfl, HG⟩
        case round =>
         clear HG
         obtain ⟨k2, hk2, rfl, hg⟩ := hrel
         by_cases hlt2 : k2 < n2
         ·have hk20 : (0 : Int) ≤ (k2 : Int) := by omega
          have hk21 : (k2 : Int) < (n2 : Int) := by omega
          obtain ⟨b2, off2, rfl, hb2, e0⟩ := HCQ.out k2 hlt2
          have e0 := (HU2.out.cell (p := ⟨b2, off2 + k2, none⟩) hb2).trans e0
          have HLk : Hid (lb = (inB (el p2 k2) 1 1000 && labB (p2.drop (k2 + 1)))) := by show lb = _; rw [hg.out, HS.out k2 hlt2]
          clear hg
          generalize el p2 k2 = y at *
          by_cases hy : inB y 1 1000 = true
          ·have HLn : Hid (lb = labB (p2.drop (k2 + 1))) := by show lb = _; rw [HLk.out, hy, Bool.true_and]
           have HY := hidP hy
           clear HLk hy
           go_wp2_with (first
            | (go_at_call 40; (with_reducible refine (refIn _ _ _ true _ HY.out).mono ?_); rintro e w1 ⟨rfl, rfl⟩))
           go_round
           case rel => exact ⟨k2 + 1, by omega, by go_num, HLn⟩
           case measure => simp [intOf]; omega
          ·have hy0 : inB y 1 1000 = false := by simpa using hy
           have hx0 : x = false := HFalse.out (by rw [HLk.out, hy0, Bool.false_and])
           have HY := hidP hy0
           subst hx0
           clear HLk hy hy0
           go_wp2_with (first
            | (go_at_call 40; (with_reducible refine (refIn _ _ _ false _ HY.out).mono ?_); rintro e w1 ⟨rfl, rfl⟩))
           go_ret
           exact ⟨rfl, HB3.out⟩
         ·have hnl2 : ¬ (k2 : Int) < (n2 : Int) := by omega
          have hkn2 : k2 = n2 := by omega
          have HOkk : Hid (OK (k' + 1)) := HFin.out (by rw [hg.out, hkn2, HE.out])
          clear hg
          go_wp2
          go_roundw
          case rel => exact ⟨k' + 1 + 1, by omega, by go_num, (by intro j hj; rcases Nat.lt_or_ge j (k' + 1) with g | g; exact hpre.out j g; rw [show j = k' + 1 by omega]; exact HOkk.out), bM3, bR3, by simp; omega, HB3⟩
          case measure => simp [intOf]; omega
       ·have hl8' : (800 : Int) < (p2.length : Int) := by omega
        have hx0 : x = false := HNk.out (fun h9 => by have h7 := (HOk.out.1 h9).2.2.2; simp [mkB] at h7; omega)
        subst hx0
        clear hw9
        go_wp2_with (first
         | (go_at_call 40; (with_reducible refine (refIn _ _ _ true _ HW9.out).mono ?_); rintro e w1 ⟨rfl, rfl⟩))
        go_ret
        exact ⟨rfl, HB3.out⟩
      ·have hw0 : inB p1 0 1000000000 = false := by simpa using hw9
       have hx0 : x = false := HNk.out (fun h9 => by have h7 := (HOk.out.1 h9).2.2.2; simp [mkB, hw0] at h7)
       have HW9 := hidP hw0
       subst hx0
       clear hw9 hw0
       go_wp2_with (first
        | (go_at_call 40; (with_reducible refine (refIn _ _ _ false _ HW9.out).mono ?_); rintro e w1 ⟨rfl, rfl⟩))
       go_ret
       exact ⟨rfl, HB3.out⟩
    ·have hx0 : x = false := HNk.out (fun h9 => by have h8 := HOk.out.1 h9; simp [inB] at hp; omega)
     have HP : Hid (inB p0 0 ((n : Int) - 1) = false) := by show _ = _; simpa using hp
     subst hx0
     clear hp
     go_wp2
     go_quiet (first | (go_at_call 40; (with_reducible refine Calls.quiet_of (refInQ _ _ _ false _ HP.out))))
     go_wp2
     go_ret
     exact ⟨rfl, below_drewN (hb.out.trans (HU2.out.mono hb.out.size)) _⟩
   ·have hnl : ¬ (k : Int) < (L : Int) := by omega
    have hkn : k = L := by omega
    have hxt : x = true := HA2.out (fun j hj => hpre.out j (by omega))
    subst hxt
    go_wp2
    go_ret
    exact ⟨rfl, hb.out⟩
 ·have hf0 : inB f 0 12 = false := by simpa using hf
  have hx0 := HF0.out hf0
  subst hx0
  have HFI := hidP hf0
  clear hf hf0 HAll HF0
  go_enter Try.func39, Try.ntmps39
  go_wp2_with (first
   | (go_at_call 40; (with_reducible refine (refIn _ _ _ false _ HFI.out).mono ?_); rintro e w1 ⟨rfl, rfl⟩))
  go_ret
  exact ⟨rfl, HU.out⟩
end Go.Proofs.Ytkeeiihaijhdoaa.Sm
namespace Go.Proofs.Ytkeeiihaijhdoaa.Sm
open Go.Proofs.Ytkeeiihaijhdoaa.Pl
set_option linter.unusedVariables false
set_option linter.unusedSimpArgs false
theorem tblF_skip {q : Int} : ∀ {l : List Mk} {T : Tbl}, (∀ k ∈ l, k.1 ≠ q) → l.foldl (fun T k => putT T k.1 k.2) T q = T q
  | [], _, _ => rfl
  | k :: l, T, h => by
    have h1 := tblF_skip (l := l) (T := putT T k.1 k.2) (fun j hj => h j (List.mem_cons_of_mem _ hj))
    rw [List.foldl_cons, h1]
    unfold putT
    rw [if_neg (fun e => h k List.mem_cons_self e.symm)]
theorem tblF_at {n : Int} : ∀ {l : List Mk} {b : Int} {T : Tbl}, risB n b l = true → ∀ k ∈ l, T k.1 = none → l.foldl (fun T k => putT T k.1 k.2) T k.1 = some k.2
  | k0 :: l, b, T, h, k, hk, hT => by
    simp only [risB, Bool.and_eq_true, decide_eq_true_eq] at h
    have hge := (risB_nodup h.2).2
    rw [List.foldl_cons]
    rcases List.mem_cons.1 hk with rfl | hk
    · rw [tblF_skip (fun j hj => by have := hge j hj; omega)]
      unfold putT minO
      rw [if_pos rfl, hT]
    · refine tblF_at h.2 k hk ?_
      have := hge k hk
      unfold putT
      rw [if_neg (by omega)]
      exact hT
theorem tblT_at {n : Int} {l : List Mk} (h : risB n 0 l = true) {q : Int} {y : Ky} : tblT l q = some y ↔ (q, y) ∈ l := by
 constructor
 ·exact tblT_mem
 ·intro hk
  exact tblF_at (T := fun _ => none) h (q, y) hk rfl
theorem risB_ordB {T : Tbl} (n : Nat) : ∀ (c b : Nat), b + c ≤ n → risB n b ((List.range' b c).filterMap fun q : Nat => (T (q : Int)).map fun k => ((q : Int), k)) = true
  | 0, b, _ => by simp [risB]
  | c + 1, b, h => by
    have ih := risB_ordB (T := T) n c (b + 1) (by omega)
    rw [List.range'_succ, List.filterMap_cons]
    rcases hT : T (b : Int) with _ | y
    · simp only [Option.map_none]
      -- a lower bound may be lowered
      have hl : ∀ {l : List Mk} {x y : Int}, y ≤ x → risB n x l = true → risB n y l = true := by
        intro l x y hxy hl
        cases l with
        | nil => rfl
        | cons k l =>
          simp only [risB, Bool.and_eq_true, decide_eq_true_eq] at hl ⊢
          exact ⟨⟨by omega, hl.1.2⟩, hl.2⟩
      exact hl (by omega) ih
    · simp only [Option.map_some, risB, Bool.and_eq_true, decide_eq_true_eq]
      refine ⟨⟨by omega, by omega⟩, ?_⟩
      have e : ((b + 1 : Nat) : Int) = (b : Int) + 1 := by omega
      rw [e] at ih
      exact ih
theorem risB_ordL (n : Nat) (T : Tbl) : risB n 0 (ordL n T) = true := by
 have := risB_ordB (T := T) n n 0 (by omega)
 unfold ordL
 rw [List.range_eq_range']
 exact this
theorem mem_ordL {n : Nat} {T : Tbl} (hD : DomT n T) {q : Int} {y : Ky} : (q, y) ∈ ordL n T ↔ T q = some y := by
 constructor
 ·exact fun h => ordL_mem h
 ·intro h
  obtain ⟨h0, h1⟩ := hD q y h
  unfold ordL
  rw [List.mem_filterMap]
  refine ⟨q.toNat, List.mem_range.2 (by omega), ?_⟩
  have e : ((q.toNat : Nat) : Int) = q := by omega
  rw [e, h]; rfl
theorem tblT_ordL {n : Nat} {T : Tbl} (hD : DomT n T) : tblT (ordL n T) = T := by
 funext q
 rcases hT : T q with _ | y
 ·rcases h2 : tblT (ordL n T) q with _ | y
  ·rfl
  ·have := (mem_ordL hD).1 (tblT_mem h2)
   rw [hT] at this; cases this
 ·exact (tblT_at (risB_ordL n T)).2 ((mem_ordL hD).2 hT)
theorem ris_one {n : Int} : ∀ {l r : List Mk} {b c : Int}, risB n b l = true → risB n c r = true → (∀ k, k ∈ l ↔ k ∈ r) → l = r
  | [], [], _, _, _, _, _ => rfl
  | [], k :: r, _, _, _, _, h => absurd ((h k).2 List.mem_cons_self) (by simp)
  | k :: l, [], _, _, _, _, h => absurd ((h k).1 List.mem_cons_self) (by simp)
  | k :: l, j :: r, b, c, h1, h2, h => by
    simp only [risB, Bool.and_eq_true, decide_eq_true_eq] at h1 h2
    have g1 := (risB_nodup h1.2).2
    have g2 := (risB_nodup h2.2).2
    have e : k = j := by
      rcases List.mem_cons.1 ((h k).1 List.mem_cons_self) with e | e
      · exact e
      · rcases List.mem_cons.1 ((h j).2 List.mem_cons_self) with e2 | e2
        · exact e2.symm
        · have a1 := g2 k e
          have a2 := g1 j e2
          omega
    subst e
    congr 1
    refine ris_one h1.2 h2.2 fun x => ?_
    constructor
    · intro hx
      rcases List.mem_cons.1 ((h x).1 (List.mem_cons_of_mem _ hx)) with e | e
      · subst e; have := g1 x hx; omega
      · exact e
    · intro hx
      rcases List.mem_cons.1 ((h x).2 (List.mem_cons_of_mem _ hx)) with e | e
      · subst e; have := g2 x hx; omega
      · exact e
theorem ordL_tblT {n : Nat} {l : List Mk} (h : risB n 0 l = true) (hD : DomT n (tblT l)) : ordL n (tblT l) = l :=
 ris_one (risB_ordL n _) h fun k => (mem_ordL hD (q := k.1) (y := k.2)).trans (tblT_at h)
end Go.Proofs.Ytkeeiihaijhdoaa.Sm
