/- What the reference answers to labels that are fed. -/
import Derived.Test.YtkeeiihaijhdoaaFaq
import Derived.Test.YtkeeiihaijhdoaaFar
import Derived.Test.YtkeeiihaijhdoaaFal
namespace Go.Proofs.Ytkeeiihaijhdoaa.Sm
open Go.ChangeShapes Go.WideShapes Go.ChangeAt Go.RowKit
open Go.Proofs.Ytkeeiihaijhdoaa.Pl Go.Proofs.Ytkeeiihaijhdoaa.Wt
set_option linter.unusedVariables false
set_option linter.unusedSimpArgs false
def StpK (m : Mc) (nl : List Mk) (l : Int) (p : Int) (y : Ky) : Prop := ∃ k ∈ nl, ∃ a ∈ arcS m k.1, a.1 = l ∧ p = a.2.2.2 ∧ y = goA k.2 a
theorem stpK_more {m : Mc} {nl : List Mk} {l : Int} {k : Mk} {O : Tbl} (h : MinT (StpI (StpK m nl l) k.2 l (arcS m k.1)) O) : MinT (StpK m (nl ++ [k]) l) O := by
 refine h.same fun p y => ?_
 unfold StpI StpK
 constructor
 ·rintro (⟨j, hj, h1⟩ | ⟨a, ha, h1⟩)
  ·exact ⟨j, List.mem_append_left _ hj, h1⟩
  ·exact ⟨k, by simp, a, ha, h1⟩
 ·rintro ⟨j, hj, a, ha, h1⟩
  rw [List.mem_append, List.mem_singleton] at hj
  rcases hj with hj | rfl
  ·exact .inl ⟨j, hj, a, ha, h1⟩
  ·exact .inr ⟨a, ha, h1⟩
theorem stpK_zero {m : Mc} {l : Int} : MinT (StpK m [] l) fun _ => none := ⟨fun p y h => (by cases h), fun p y ⟨k, hk, _⟩ => (by cases hk)⟩
theorem stpK_end {m : Mc} {n : Int} {nl : List Mk} {l : Int} {O : Tbl} (hr : risB n 0 nl = true) (h : MinT (StpK m nl l) O) : MinT (StpL m (tblT nl) l) O := by
 refine h.same fun p y => ?_
 unfold StpK StpL
 constructor
 ·rintro ⟨k, hk, a, ha, h1⟩
  exact ⟨k.1, k.2, a, (tblT_at hr).2 hk, ha, h1⟩
 ·rintro ⟨q, x, a, h1, ha, h2⟩
  exact ⟨(q, x), (tblT_at hr).1 h1, a, ha, h2⟩
theorem tblT_nz {nl : List Mk} (h : NzL nl) : NzT (tblT nl) := fun q k hk x hx => by
 obtain ⟨j, hj, he⟩ := List.getElem_of_mem (tblT_mem hk)
 have := h j hj
 rw [el_get hj, he] at this
 exact this x hx
theorem stpL_nz {m : Mc} {K : Tbl} {l : Int} {O : Tbl} (hK : NzT K) (h : MinT (StpL m K l) O) : NzT O := fun p y hp => by
 obtain ⟨q, x, a, h1, _, _, _, rfl⟩ := h.1 p y hp
 exact goA_nz (hK q x h1)
theorem runB_nz {n : Int} {r : Ru} (h : runB n r = true) : NzL r.2 := fun j hj x hx => by
 simp only [runB, Bool.and_eq_true] at h
 have h2 := List.all_eq_true.1 h.2 _ (el_mem hj)
 simp only [mkB, Bool.and_eq_true] at h2
 have h3 := List.all_eq_true.1 h2.2 x hx
 simp only [inB, Bool.and_eq_true, decide_eq_true_eq] at h3
 omega
theorem runB_ris {n : Int} {r : Ru} (h : runB n r = true) : risB n 0 r.2 = true := by
 simp only [runB, Bool.and_eq_true] at h
 exact h.1.2
theorem labB_el {x : List Int} (h : ∀ i, i < x.length → inB (el x i) 1 1000 = true) : labB x = true := by
 unfold labB
 rw [List.all_eq_true]
 intro y hy
 obtain ⟨j, hj, he⟩ := List.getElem_of_mem hy
 rw [← he, ← el_get hj]
 exact h j hj
theorem labB_not {x : List Int} {i : Nat} (hi : i < x.length) (h : inB (el x i) 1 1000 = false) : labB x = false := by
 rw [← Bool.not_eq_true]
 intro h2
 unfold labB at h2
 rw [List.all_eq_true] at h2
 rw [h2 _ (el_mem hi)] at h
 cases h
set_option maxRecDepth 100000 in
set_option maxHeartbeats 8000000 in
theorem feedR_good (v vr vx : Value) (m : Mc) (r : Ru) (x : List Int) (w : World) (h : Mach w v m) (hok : okM m) (hr : RunV w vr r) (hou : okU r) (hx : Nums w vx x) (hxl : x.length ≤ 17592186044000) (hf : faultM m = 0) (hrun : runB m.2.length r = true) :
  Calls Try.prog 17 #[v, vr, vx] w fun e w' => ∃ s ec, FedAns m r x s ec ∧ RunRes s ec w e w' := by
 have HM := hidP h
 have HK := hidP hok
 have HR := hidP hr
 have HO := hidP hou
 have HX := hidP hx
 obtain ⟨z, l⟩ := m
 obtain ⟨vs, rfl, hS⟩ := h
 obtain ⟨a, cap, rfl, hcs⟩ := hS.get
 have HCS : Hid (∀ j, j < l.length → ∃ b off va, a = some ⟨b, off, none⟩ ∧ b < w.heap.size ∧ w.cell? ⟨b, off + j * 2, none⟩ = some (.int .i64 (el l j).1) ∧ w.cell? ⟨b, off + j * 2 + 1, none⟩ = some va ∧ Arcs w va (el l j).2) := hcs
 obtain ⟨vm, rfl, hMk⟩ := hr
 obtain ⟨am, cm, rfl⟩ := hMk.sl
 have HMK := hidP hMk
 obtain ⟨ax, cx, rfl, hxc⟩ := hx.get
 have HXC := hidP hxc
 clear hS hcs hok hou hMk hx hxc
 simp only at HMK hrun ⊢
 have hnot : ∀ (x : Bool) (w : World), (Op.unary .not (.bool x)).run Try.prog w = .ok (.bool (!x)) w := fun _ _ => rfl
 have HU : Hid (Below w.heap.size w (((w.alloc (.cells #[.int .i64 z, .slice a l.length cap] 24)).alloc (.cells #[.int .i64 r.1, .slice am r.2.length cm] 28)).alloc (.cells #[.int .i64 0, .slice none 0 0] 28))) := by show Below _ _ _; go_grown
 ·have HF := hidP hf
  have h60 : l.length ≤ 60 := (right_size hf).1
  have h60' : (z, l).2.length ≤ 60 := h60
  have H60 := hidP h60'
  ·have hc : chkA (z, l) r = 0 := by unfold chkA; rw [if_neg (by omega)]; simp only; rw [if_pos hrun]
   have hfd := runB_fed hrun
   have HRM : Hid (∀ W v vr, Mach W v (z, l) → RunV W vr r → Calls Try.prog 39 #[v, vr] W fun e w' => e = .returned (.bool true) ∧ Below W.heap.size W w') := fun W v vr h1 h2 => runMay_any v vr (z, l) r W h1 HK.out h2 HO.out h60 true hrun
   by_cases ho : 12 < r.1 + (x.length : Int)
   ·have HANS : Hid (FedAns (z, l) r x (0, []) 5) := .inr (.inl ⟨hc, ho, rfl, rfl⟩)
    clear hc hf hrun
    go_enter Try.func17, Try.ntmps17
    go_wp2_with (first
     | (go_at_call 31; (with_reducible refine (fault_any _ (z, l) _ (HM.out.later HU.out (Nat.le_refl _)) HK.out 0 HF.out).mono ?_); rintro e w1 ⟨rfl, hb⟩; obtain ⟨s1, b1, b2, b3, hb1⟩ := boxedThree hb (by simp); have HB1 := hidP hb1; have BM1 := hidP b1; have BR1 := hidP b2; have BT1 := hidP b3; have c0 := b1.cell 0 (v := .int .i64 z) rfl; have c1 := b1.cell 1 (v := .slice a l.length cap) rfl; have c2 := b2.cell 0 (v := .int .i64 r.1) rfl; have c3 := b2.cell 1 (v := .slice am r.2.length cm) rfl; clear hb hb1 b1 b2 b3)
     | (go_at_call 39; (with_reducible refine (HRM.out _ _ _ (HM.out.later HB1.out (Nat.le_refl _)) (HR.out.later HB1.out (Nat.le_refl _))).mono ?_); rintro e w2 ⟨rfl, hb⟩; have HB2 : Hid (Below w.heap.size w w2) := HB1.out.trans (hb.mono HB1.out.size); have BM2 := hidP (BM1.out.below hb BM1.out.lt); have BR2 := hidP (BR1.out.below hb BR1.out.lt); have BT2 := hidP (BT1.out.below hb BT1.out.lt); have d2 := BR2.out.cell 0 (v := .int .i64 r.1) rfl; have d3 := BR2.out.cell 1 (v := .slice am r.2.length cm) rfl; have y0 := BT2.out.cell 0 (v := .int .i64 0) rfl; have y1 := BT2.out.cell 1 (v := .slice none 0 0) rfl; have t0 := BT2.out.fz 0; have t1 := BT2.out.fz 1; have z2 : w.heap.size + 2 < w2.heap.size := BT2.out.lt; have z1 : w.heap.size + 1 < w2.heap.size := BR2.out.lt; clear hb c0 c1 c2 c3))
    exact bodyPost_ret (v := .tuple #[.agg #[.int .i64 0, .slice none 0 0], .int .i64 5]) (by simp [results, Try.results17, go_sem, *]) rfl ⟨(0, []), 5, HANS.out, _, rfl, ⟨_, rfl, [], .inl ⟨rfl, rfl⟩, rfl, by simp⟩, by have h9 := HB2.out; go_grown⟩
   ·have HNA : Hid (∀ i, i < x.length → inB (el x i) 1 1000 = false → FedAns (z, l) r x (0, []) 2) := fun i hi h => .inr (.inr (.inl ⟨hc, ho, labB_not hi h, rfl, rfl⟩))
    have HYA : Hid ((∀ i, i < x.length → inB (el x i) 1 1000 = true) → ∀ res, FedT (z, l) (tblT r.2) x res → FedAns (z, l) r x (match res with | none => (0, []) | some K => (r.1 + x.length, ordL l.length K)) (match res with | none => 4 | some _ => 0)) := fun h res hres => .inr (.inr (.inr ⟨hc, ho, labB_el h, res, hres, rfl, rfl⟩))
    have ho' : r.1 + (x.length : Int) ≤ 12 := by omega
    have hL12 : x.length ≤ 12 := by omega
    have HTF : Hid (DomT l.length (tblT r.2) ∧ BndT 1000000000 800 (tblT r.2)) := tblT_facts (m := (z, l)) hrun
    have HNZ := hidP (runB_nz hrun)
    have HRIS := hidP (runB_ris hrun)
    have HDR : Hid (∀ i, i < x.length → x.drop i = el x i :: x.drop (i + 1)) := fun i hi => by rw [List.drop_eq_getElem_cons hi, el_get hi]
    have HDE : Hid (x.drop x.length = []) := List.drop_length
    clear hc hf hrun ho
    go_enter Try.func17, Try.ntmps17
    go_wp2_with (first
     | (go_at_call 31; (with_reducible refine (fault_any _ (z, l) _ (HM.out.later HU.out (Nat.le_refl _)) HK.out 0 HF.out).mono ?_); rintro e w1 ⟨rfl, hb⟩; obtain ⟨s1, b1, b2, b3, hb1⟩ := boxedThree hb (by simp); have HB1 := hidP hb1; have BM1 := hidP b1; have BR1 := hidP b2; have BT1 := hidP b3; have c0 := b1.cell 0 (v := .int .i64 z) rfl; have c1 := b1.cell 1 (v := .slice a l.length cap) rfl; have c2 := b2.cell 0 (v := .int .i64 r.1) rfl; have c3 := b2.cell 1 (v := .slice am r.2.length cm) rfl; clear hb hb1 b1 b2 b3)
     | (go_at_call 39; (with_reducible refine (HRM.out _ _ _ (HM.out.later HB1.out (Nat.le_refl _)) (HR.out.later HB1.out (Nat.le_refl _))).mono ?_); rintro e w2 ⟨rfl, hb⟩; have HB2 : Hid (Below w.heap.size w w2) := HB1.out.trans (hb.mono HB1.out.size); have BM2 := hidP (BM1.out.below hb BM1.out.lt); have BR2 := hidP (BR1.out.below hb BR1.out.lt); have BT2 := hidP (BT1.out.below hb BT1.out.lt); have d2 := BR2.out.cell 0 (v := .int .i64 r.1) rfl; have d3 := BR2.out.cell 1 (v := .slice am r.2.length cm) rfl; have y0 := BT2.out.cell 0 (v := .int .i64 0) rfl; have y1 := BT2.out.cell 1 (v := .slice none 0 0) rfl; have t0 := BT2.out.fz 0; have t1 := BT2.out.fz 1; have z2 : w.heap.size + 2 < w2.heap.size := BT2.out.lt; have z1 : w.heap.size + 1 < w2.heap.size := BR2.out.lt; clear hb c0 c1 c2 c3))
    go_loopw [9] (fun i9 wr => ∃ i : Nat, i ≤ x.length ∧ i9 = .int .i64 i ∧ Hid (∀ j, j < i → inB (el x j) 1 1000 = true) ∧ wr = w2) (fun i9 _ => x.length - (intOf i9).toNat)
    case atStart => exact ⟨0, Nat.zero_le _, rfl, (by intro j hj; omega), rfl⟩
    case round =>
     obtain ⟨i, hi, rfl, hpre, hwr⟩ := hrel
     have hwr' := hwr.symm
     subst hwr'
     by_cases hit : i < x.length
     ·have hi0 : (0 : Int) ≤ (i : Int) := by omega
      have hi1 : (i : Int) < (x.length : Int) := by omega
      obtain ⟨b, off, rfl, hbl, q0⟩ := HXC.out i hit
      have q0 := (HB2.out.cell (p := ⟨b, off + i, none⟩) hbl).trans q0
      have HNi := hidP (HNA.out i hit)
      have HEi : Hid (∀ y, el x i = y → inB y 1 1000 = true → ∀ j, j < i + 1 → inB (el x j) 1 1000 = true) := fun y hy h j hj => by
       rcases Nat.lt_or_ge j i with g | g
       ·exact hpre.out j g
       ·rw [show j = i by omega, hy]; exact h
      obtain ⟨y, hy⟩ : ∃ y, y = el x i := ⟨_, rfl⟩
      rw [← hy] at q0 HNi
      have HYE := hidP hy.symm
      clear hy
      by_cases hyy : inB y 1 1000 = true
      ·have HY := hidP hyy
       have HP2 := hidP (HEi.out y HYE.out hyy)
       clear hyy
       go_wp2_with (first
        | (go_at_call 40; (with_reducible refine (refIn _ _ _ true _ HY.out).mono ?_); rintro e w3 ⟨rfl, rfl⟩))
       go_roundw
       case rel => exact ⟨i + 1, by omega, by go_num, HP2, by first | rfl | trivial⟩
       case measure => simp [intOf]; omega
      ·have hyf : inB y 1 1000 = false := by simpa using hyy
       have HAN := hidP (HNi.out hyf)
       have HY := hidP hyf
       clear hyy hyf
       go_wp2_with (first
        | (go_at_call 40; (with_reducible refine (refIn _ _ _ false _ HY.out).mono ?_); rintro e w3 ⟨rfl, rfl⟩))
       exact bodyPost_ret (v := .tuple #[.agg #[.int .i64 0, .slice none 0 0], .int .i64 2]) (by simp [results, Try.results17, go_sem, *]) rfl ⟨(0, []), 2, HAN.out, _, rfl, ⟨_, rfl, [], .inl ⟨rfl, rfl⟩, rfl, by simp⟩, by have h9 := HB2.out; go_grown⟩
     ·have hil : i = x.length := by omega
      have hnl : (x.length : Int) ≤ (i : Int) := by omega
      have HPA := hidP (HYA.out (fun j hj => hpre.out j (by omega)))
      clear HYA HNA hpre
      go_wp2
      go_loopw [11] (fun i11 wr => ∃ (i : Nat) (nvs : Value) (nl : List Mk), i ≤ x.length ∧ i11 = .int .i64 i ∧ Hid (Blk wr w2.heap.size #[.int .i64 (r.1 + i), nvs] 28) ∧ Hid (MarksX w2.heap.size wr nvs nl) ∧ Hid (risB l.length 0 nl = true) ∧ Hid (DomT l.length (tblT nl)) ∧ Hid (BndT 1000000000 (800 + 61 * i) (tblT nl)) ∧ Hid (NzL nl) ∧ Hid (∀ res, FedT (z, l) (tblT nl) (x.drop i) res → FedT (z, l) (tblT r.2) x res) ∧ Hid (nl = ordL l.length (tblT nl)) ∧ Hid (Blk wr w.heap.size #[.int .i64 z, .slice a l.length cap] 24) ∧ Hid (Blk wr (w.heap.size + 2) #[.int .i64 0, .slice none 0 0] 28) ∧ w2.heap.size + 1 ≤ wr.heap.size ∧ Hid (Below w.heap.size w wr)) (fun i11 _ => x.length - (intOf i11).toNat)
      case atStart => exact ⟨0, _, r.2, Nat.zero_le _, rfl, by (show Blk _ _ _ _; have h9 := Blk.made w2 #[.int .i64 r.1, .slice am r.2.length cm] 28; simpa using h9), MarksX.old HMK.out (HB2.out.trans (((Below.refl _ _).alloc (Nat.le_refl _) _).mono HB2.out.size)) HB2.out.size, HRIS, HTF.out.1, (by show BndT _ _ _; simpa using HTF.out.2), HNZ, (fun res h => h), (ordL_tblT HRIS.out HTF.out.1).symm, BM2.out.alloc _, BT2.out.alloc _, by simp, HB2.out.trans (((Below.refl _ _).alloc (Nat.le_refl _) _).mono HB2.out.size)⟩
      case round =>
       obtain ⟨i, nvs, nl, hi, rfl, b10, hMX, hris, hDT, hBT, hNz, hst, hord, bM, bT, hsz, hb⟩ := hrel
       obtain ⟨an, cn, rfl⟩ := hMX.out.sl
       have hnl : nl.length ≤ 60 := Nat.le_trans (risB_few hris.out) h60
       have e10 := b10.out.cell 1 (v := .slice an nl.length cn) rfl
       have e00 := b10.out.cell 0 (v := .int .i64 (r.1 + i)) rfl
       have em1 := bM.out.cell 1 (v := .slice a l.length cap) rfl
       have em0 := bM.out.cell 0 (v := .int .i64 z) rfl
       have z10 : w2.heap.size < wr.heap.size := by omega
       by_cases hit : i < x.length
       ·have hi0 : (0 : Int) ≤ (i : Int) := by omega
        have hi1 : (i : Int) < (x.length : Int) := by omega
        obtain ⟨bx, offx, rfl, hblx, q0w⟩ := HXC.out i hit
        have HQX := hidP q0w
        have HBX := hidP hblx
        have HDRi := hidP (HDR.out i hit)
        obtain ⟨w0, hw0⟩ : ∃ w0, w0 = wr := ⟨_, rfl⟩
        subst hw0
        have HPT : Hid (w2.heap.size < w0.heap.size) := z10
        have HTZ : Hid (nl.take 0 = []) := rfl
        have HTE : Hid (nl.take nl.length = nl) := List.take_length
        have HTK : Hid (∀ j, j < nl.length → nl.take (j + 1) = nl.take j ++ [el nl j]) := fun j hj => take_el hj
        have HEM : Hid (∀ j, j < nl.length → 0 ≤ (el nl j).1 ∧ (el nl j).1 < l.length ∧ 0 ≤ (el nl j).2.1 ∧ (el nl j).2.1 ≤ 1000000000 ∧ (el nl j).2.2.length ≤ 800 + 61 * i) := fun j hj => by
         have h1 := (tblT_at hris.out (q := (el nl j).1) (y := (el nl j).2)).2 (el_mem hj)
         have h2 := hDT.out _ _ h1
         have h3 := hBT.out _ _ h1
         omega
        clear hblx q0w
        generalize el x i = lab at *
        go_wp2_with (first
         | (go_at_call 32; (with_reducible refine (nobody_any w2.heap.size l.length _ (by omega)).mono ?_); rintro e w3 ⟨rfl, hT3, hb3⟩; have HT3 := hidP hT3; have HB3 := hidP hb3; clear hT3 hb3 e10 e00 em1 em0))
        go_loopw [13] (fun i13 wr => ∃ (k : Nat) (ms2 : List Mk) (N : Tbl), k ≤ nl.length ∧ i13 = .int .i64 k ∧ Hid (TabM wr w0.heap.size w2.heap.size ms2) ∧ Hid (TRel l.length N ms2) ∧ Hid (MinT (StpK (z, l) (nl.take k) lab) N) ∧ w0.heap.size < wr.heap.size ∧ Hid (Below w0.heap.size w0 wr)) (fun i13 _ => nl.length - (intOf i13).toNat)
        case atStart => exact ⟨0, _, _, Nat.zero_le _, rfl, HT3, TRel.nob _, by rw [HTZ.out]; exact stpK_zero, HT3.out.lt, HB3⟩
        case round =>
         clear HT3 HB3
         obtain ⟨k, ms2, N, hk, rfl, hT, hN, hmin, hB2, hb2⟩ := hrel
         have BM4 := hidP (bM.out.below hb2.out bM.out.lt)
         have B104 := hidP (b10.out.below hb2.out b10.out.lt)
         have e10 := B104.out.cell 1 (v := .slice an nl.length cn) rfl
         have e00 := B104.out.cell 0 (v := .int .i64 (r.1 + i)) rfl
         have em1 := BM4.out.cell 1 (v := .slice a l.length cap) rfl
         have em0 := BM4.out.cell 0 (v := .int .i64 z) rfl
         by_cases hkt : k < nl.length
         ·have hk0 : (0 : Int) ≤ (k : Int) := by omega
          have hk1 : (k : Int) < (nl.length : Int) := by omega
          obtain ⟨b, off, vo, rfl, hbl, g0, g1, g2, hno⟩ := hMX.out.get (j := k) hkt
          obtain ⟨ao, co, rfl⟩ := Row.sl hno.nums
          have g0 := (hb2.out.cell (p := ⟨b, off + k * 3, none⟩) hbl).trans g0
          have g1 := (hb2.out.cell (p := ⟨b, off + k * 3 + 1, none⟩) hbl).trans g1
          have g2 := (hb2.out.cell (p := ⟨b, off + k * 3 + 2, none⟩) hbl).trans g2
          have zb : b < wr.heap.size := Nat.lt_of_lt_of_le hbl hb2.out.size
          have HNO := hidP hno
          have HTKk := hidP (HTK.out k hkt)
          obtain ⟨m0, m1, m2, m3, m4⟩ := HEM.out k hkt
          obtain ⟨j, hj⟩ : ∃ j : Nat, (el nl k).1 = (j : Int) := ⟨(el nl k).1.toNat, by omega⟩
          have hjn : j < l.length := by omega
          have hj0 : (0 : Int) ≤ (j : Int) := by omega
          have hj1 : (j : Int) < (l.length : Int) := by omega
          clear hno hbl
          generalize el nl k = p at *
          obtain ⟨p0, p1, p2⟩ := p
          simp only at g0 g1 g2 m0 m1 m2 m3 m4 hj HNO HTKk
          subst hj
          have HLA : Hid ((el l j).2.length * 32 ≤ 140737488351232) := HK.out.2 j hjn
          have hLA := HLA.out
          have HAQ : Hid (∀ b, b ∈ (el l j).2 → 0 ≤ b.1 ∧ 0 ≤ b.2.1 ∧ b.2.1 ≤ 1000 ∧ 0 ≤ b.2.2.1 ∧ b.2.2.1 ≤ 1000000000 ∧ 0 ≤ b.2.2.2 ∧ b.2.2.2 < l.length) := fun b hb => by
           have := arcs_rng HF.out (q := (j : Int)) (a := b) (by simpa [arcS] using hb)
           exact this
          have HTA : Hid ((el l j).2.take (el l j).2.length = (el l j).2) := List.take_length
          have HTB : Hid (∀ i, i < (el l j).2.length → (el l j).2.take (i + 1) = (el l j).2.take i ++ [el (el l j).2 i]) := fun i hi => take_el hi
          have HTC : Hid ((el l j).2.take 0 = []) := rfl
          have HEL : Hid (∀ i, i < (el l j).2.length → el (el l j).2 i ∈ (el l j).2) := fun i hi => el_mem hi
          have HFIN : Hid (∀ O', MinT (StpI (StpK (z, l) (nl.take k) lab) (p1, p2) lab (el l j).2) O' → MinT (StpK (z, l) (nl.take (k + 1)) lab) O') := fun O' h => by
           rw [HTKk.out]
           exact stpK_more (k := ((j : Int), p1, p2)) (by simpa [arcS] using h)
          have HI0 : Hid (MinT (StpI (StpK (z, l) (nl.take k) lab) (p1, p2) lab []) N) := stpI_zero hmin.out
          have HBw := hidP (hb.out.trans (hb2.out.mono hb.out.size))
          obtain ⟨sb, soff, va, rfl, hsb, _, s1, hArc⟩ := HCS.out j hjn
          obtain ⟨aa, ca, rfl⟩ := hArc.sl
          have HS1 := hidP s1
          have HSB := hidP hsb
          have HARC := hidP hArc
          obtain ⟨aa', ca', hva, hac⟩ := HARC.out.get
          simp only [Value.slice.injEq, true_and] at hva
          obtain ⟨rfl, rfl⟩ := hva
          have HAC := hidP hac
          clear hac s1 hsb hArc hmin
          have HWK : Hid (Below wr.heap.size wr (wr.alloc (.cells #[.int .i64 (j : Int), .int .i64 p1, .slice ao p2.length co] 67))) := by show Below _ _ _; go_grown
          have BK : Hid (Blk (wr.alloc (.cells #[.int .i64 (j : Int), .int .i64 p1, .slice ao p2.length co] 67)) wr.heap.size #[.int .i64 (j : Int), .int .i64 p1, .slice ao p2.length co] 67) := Blk.made wr _ _
          generalize StpK (z, l) (nl.take k) lab = SK at *
          generalize (el l j).2 = la at *
          generalize hLa : la.length = La at *
          have HLAe := hidP hLa
          clear hLa
          go_wp2
          obtain ⟨w5, hw5⟩ : ∃ w5, w5 = wr := ⟨_, rfl⟩
          subst hw5
          go_loopw [15] (fun i15 wr => ∃ (i2 : Nat) (ms3 : List Mk) (N3 : Tbl), i2 ≤ La ∧ i15 = .int .i64 i2 ∧ Hid (TabM wr w0.heap.size w2.heap.size ms3) ∧ Hid (TRel l.length N3 ms3) ∧ Hid (MinT (StpI SK (p1, p2) lab (la.take i2)) N3) ∧ Hid (Blk wr w5.heap.size #[.int .i64 (j : Int), .int .i64 p1, .slice ao p2.length co] 67) ∧ w5.heap.size < wr.heap.size ∧ Hid (Below w0.heap.size w0 wr)) (fun i15 _ => La - (intOf i15).toNat)
          case atStart => exact ⟨0, ms2, N, Nat.zero_le _, rfl, hT.out.below HWK.out, hN, by rw [HTC.out]; exact HI0.out, BK, by simp, hb2.out.trans (HWK.out.mono hb2.out.size)⟩
          case round =>
           clear hT hN HI0 BK HWK e10 e00 em1 em0 g0 g1 g2 zb BM4 B104 HBw
           obtain ⟨i2, ms3, N3, hi2, rfl, hT3, hN3, hmin3, bK3, hK3, hb3⟩ := hrel
           have BM5 := hidP (bM.out.below hb3.out bM.out.lt)
           have em1 := BM5.out.cell 1 (v := .slice (some ⟨sb, soff, none⟩) l.length cap) rfl
           have k0 := bK3.out.cell 0 (v := .int .i64 (j : Int)) rfl
           have k1 := bK3.out.cell 1 (v := .int .i64 p1) rfl
           have k2 := bK3.out.cell 2 (v := .slice ao p2.length co) rfl
           have HBw := hidP (hb.out.trans (hb3.out.mono hb.out.size))
           have s1c := (HBw.out.cell (p := ⟨sb, soff + j * 2 + 1, none⟩) HSB.out).trans HS1.out
           have zsb : sb < wr.heap.size := Nat.lt_of_lt_of_le HSB.out HBw.out.size
           have z5 : w5.heap.size < wr.heap.size := hK3
           have zm : w.heap.size < wr.heap.size := BM5.out.lt
           by_cases hit2 : i2 < La
           ·have hi20 : (0 : Int) ≤ (i2 : Int) := by omega
            have hi21 : (i2 : Int) < (La : Int) := by omega
            obtain ⟨ab, aoff, rfl, hab, q0, q1, q2, q3⟩ := HAC.out i2 hit2
            have q0 := (HBw.out.cell (p := ⟨ab, aoff + i2 * 4, none⟩) hab).trans q0
            have q1 := (HBw.out.cell (p := ⟨ab, aoff + i2 * 4 + 1, none⟩) hab).trans q1
            have q2 := (HBw.out.cell (p := ⟨ab, aoff + i2 * 4 + 2, none⟩) hab).trans q2
            have q3 := (HBw.out.cell (p := ⟨ab, aoff + i2 * 4 + 3, none⟩) hab).trans q3
            have zab : ab < wr.heap.size := Nat.lt_of_lt_of_le hab HBw.out.size
            have x0c := (HBw.out.cell (p := ⟨bx, offx + i, none⟩) HBX.out).trans HQX.out
            have zbx : bx < wr.heap.size := Nat.lt_of_lt_of_le HBX.out HBw.out.size
            obtain ⟨r0, r1, r1b, r2, r3, r4, r5⟩ := HAQ.out _ (HEL.out i2 hit2)
            have HT2 := hidP (HTB.out i2 hit2)
            clear hab
            generalize el la i2 = b9 at *
            obtain ⟨b0, b1, b2, b3⟩ := b9
            simp only at q0 q1 q2 q3 r0 r1 r1b r2 r3 r4 r5
            have HST := hidP (stpI_snoc (a := (b0, b1, b2, b3)) hmin3.out)
            obtain ⟨t, ht⟩ : ∃ t : Nat, b3 = (t : Int) := ⟨b3.toNat, by omega⟩
            subst ht
            have htn : t < l.length := by omega
            have ht0 : (0 : Int) ≤ (t : Int) := by omega
            have ht1 : (t : Int) < (l.length : Int) := by omega
            have HW6 : Hid (Below wr.heap.size wr (wr.alloc (.cells #[.int .i64 b0, .int .i64 b1, .int .i64 b2, .int .i64 (t : Int)] 75))) := by show Below _ _ _; go_grown
            have BA6 : Hid (Blk (wr.alloc (.cells #[.int .i64 b0, .int .i64 b1, .int .i64 b2, .int .i64 (t : Int)] 75)) wr.heap.size #[.int .i64 b0, .int .i64 b1, .int .i64 b2, .int .i64 (t : Int)] 75) := Blk.made wr _ _
            by_cases hb0 : b0 = lab
            ·have HST2 : Hid (MinT (StpI SK (p1, p2) lab (la.take (i2 + 1))) (putT N3 (t : Int) (goA (p1, p2) (b0, b1, b2, (t : Int))))) := by
              show MinT _ _
              have h := HST.out
              rw [HT2.out]
              simp only at h
              rw [if_pos hb0] at h
              exact h
             have hbe : (b0 == lab) = true := by simp [hb0]
             clear hb0 HST
             go_wp2
             go_quiet (fail)
             have HWQ : Hid (Below wr.heap.size wr ((wr.alloc (.cells #[.int .i64 b0, .int .i64 b1, .int .i64 b2, .int .i64 (t : Int)] 75)).drewN nq)) := below_drewN HW6.out _
             have BAQ : Hid (Blk ((wr.alloc (.cells #[.int .i64 b0, .int .i64 b1, .int .i64 b2, .int .i64 (t : Int)] 75)).drewN nq) wr.heap.size #[.int .i64 b0, .int .i64 b1, .int .i64 b2, .int .i64 (t : Int)] 75) := BA6.out.drewN _
             have HNX : Hid (Nums ((wr.alloc (.cells #[.int .i64 b0, .int .i64 b1, .int .i64 b2, .int .i64 (t : Int)] 75)).drewN nq) (.slice ao p2.length co) p2) := HNO.out.nums.later (hb3.out.trans (HWQ.out.mono hb3.out.size)) (Nat.le_refl _)
             have hzq : ((wr.alloc (.cells #[.int .i64 b0, .int .i64 b1, .int .i64 b2, .int .i64 (t : Int)] 75)).drewN nq).heap.size = wr.heap.size + 1 := by simp
             go_wp2_with (first
              | (go_at_call 41; (with_reducible refine (moved_any _ ((j : Int), p1, p2) (b0, b1, b2, (t : Int)) _ (mkIs_of HNX.out) (by simp only; omega) (by simp only; omega) (by simp only; omega) (by simp only; omega) (by simp only; omega) (by simp only; omega)).mono ?_); rintro e w8 ⟨v8, rfl, ho8, hb8⟩; obtain ⟨av, cv, rfl⟩ := ho8.sl; rw [hzq] at ho8; have HO8 : Hid (OwnN w8 (wr.heap.size + 1) (.slice av (goA (p1, p2) (b0, b1, b2, (t : Int))).2.length cv) (goA (p1, p2) (b0, b1, b2, (t : Int))).2) := ho8; have HB8 : Hid (Below wr.heap.size wr w8) := HWQ.out.trans (hb8.mono HWQ.out.size); have BA8 := hidP (BAQ.out.below hb8 BAQ.out.lt); have HYL : Hid ((((t : Int), goA (p1, p2) (b0, b1, b2, (t : Int))) : Mk).2.2.length ≤ 1000000) := (by show _ ≤ _; have h9 := goA_len (p1, p2) (b0, b1, b2, (t : Int)); simp only at h9 ⊢; omega); clear ho8 hb8 hzq))
             obtain ⟨w9, hw9⟩ : ∃ w9, w9 = w8.alloc (.cells #[.int .i64 (t : Int), .int .i64 (goA (p1, p2) (b0, b1, b2, (t : Int))).1, .slice av (goA (p1, p2) (b0, b1, b2, (t : Int))).2.length cv] 67) := ⟨_, rfl⟩
             rw [← hw9]
             have HB89 : Hid (Below w8.heap.size w8 w9) := by rw [hw9]; exact (Below.refl _ _).alloc (Nat.le_refl _) _
             have HB9 : Hid (Below wr.heap.size wr w9) := HB8.out.trans (HB89.out.mono HB8.out.size)
             have HP9 : Hid (Blk w9 w8.heap.size #[.int .i64 (t : Int), .int .i64 (goA (p1, p2) (b0, b1, b2, (t : Int))).1, .slice av (goA (p1, p2) (b0, b1, b2, (t : Int))).2.length cv] 67) := by rw [hw9]; exact Blk.made _ _ _
             have hPw : w2.heap.size < wr.heap.size := by have h9 := hb3.out.size; have h8 := HPT.out; omega
             have hw0r : w0.heap.size < wr.heap.size := by have h9 := hb3.out.size; omega
             have HNV9 : Hid (NumE w0.heap.size w2.heap.size w9 (.slice av (goA (p1, p2) (b0, b1, b2, (t : Int))).2.length cv) (goA (p1, p2) (b0, b1, b2, (t : Int))).2) := (NumE.own HO8.out (by omega) (by omega)).below HB89.out
             have BA9 := hidP (BA8.out.below HB89.out BA8.out.lt)
             clear hw9 HO8 hPw
             generalize goA (p1, p2) (b0, b1, b2, (t : Int)) = Y at *
             have HT9 := hidP (hT3.out.below HB9.out)
             obtain ⟨at9, ct9, n0, n1, n2, hnn, _, _, _⟩ := HT9.out.get (j := t) (by rw [hN3.out.1]; exact htn)
             have HNE9 : Hid (NumE w0.heap.size w2.heap.size w9 (.slice at9 (el ms3 t).2.2.length ct9) (el ms3 t).2.2) := by
              obtain ⟨xs, x1, x2, x3⟩ := HT9.out
              have hq9 : t < ms3.length := by rw [hN3.out.1]; exact htn
              have x4 := (x3 t hq9).2.2
              have x5 := flat_at encM_len xs t (by omega) 2 (by omega)
              have x6 := x1.cell (t * 3 + 2) (v := (el xs t).2.2) (by rw [List.getElem?_toArray, x5]; rfl)
              rw [n2] at x6
              simp only [Option.some.injEq] at x6
              rw [x6]; exact x4
             have HS9 : Held8 w0.heap.size (t * 3) wr.heap.size w8.heap.size (.int .i64 (el ms3 t).1) (.int .i64 (el ms3 t).2.1) (.slice at9 (el ms3 t).2.2.length ct9) (.int .i64 (t : Int)) (.int .i64 (t : Int)) (.int .i64 Y.1) (.slice av Y.2.length cv) w9.drew := ⟨n0, n1, n2, BA9.out.cell 3 rfl, HP9.out.cell 0 rfl, HP9.out.cell 1 rfl, HP9.out.cell 2 rfl⟩
             have zB9 : w0.heap.size < w9.heap.size := HT9.out.lt
             clear hnn n0 n1 n2
             refine region_anyL (Held8 w0.heap.size (t * 3) wr.heap.size w8.heap.size (.int .i64 (el ms3 t).1) (.int .i64 (el ms3 t).2.1) (.slice at9 (el ms3 t).2.2.length ct9) (.int .i64 (t : Int)) (.int .i64 (t : Int)) (.int .i64 Y.1) (.slice av Y.2.length cv)) 11 (by kernel_rfl) ?_
             refine anyL_tk (i := 0) (v := ?v0_1) aZ0 (by kernel_rfl) ?y0_1 HS9 ?r0_1
             case y0_1 => intro wx hx; obtain ⟨h0, h1, h2, h3, h4, h5, h6⟩ := hx; go_simp; try (with_reducible rfl)
             simp only [Act.put, List.setIfInBounds_toArray, List.set_cons_zero, List.set_cons_succ]
             refine anyL_tk (i := 1) (v := ?v1_2) aZ1 (by kernel_rfl) ?y1_2 HS9 ?r1_2
             case y1_2 => intro wx hx; obtain ⟨h0, h1, h2, h3, h4, h5, h6⟩ := hx; go_simp; try (with_reducible rfl)
             simp only [Act.put, List.setIfInBounds_toArray, List.set_cons_zero, List.set_cons_succ]
             refine anyL_tk (i := 2) (v := ?v2_3) aZ2 (by kernel_rfl) ?y2_3 HS9 ?r2_3
             case y2_3 => intro wx hx; obtain ⟨h0, h1, h2, h3, h4, h5, h6⟩ := hx; go_simp; try (with_reducible rfl)
             simp only [Act.put, List.setIfInBounds_toArray, List.set_cons_zero, List.set_cons_succ]
             refine anyL_tk (i := 3) (v := ?v3_4) aZ3 (by kernel_rfl) ?y3_4 HS9 ?r3_4
             case y3_4 => intro wx hx; obtain ⟨h0, h1, h2, h3, h4, h5, h6⟩ := hx; go_simp; try (with_reducible rfl)
             simp only [Act.put, List.setIfInBounds_toArray, List.set_cons_zero, List.set_cons_succ]
             refine anyL_tk (i := 4) (v := ?v4_5) aZ4 (by kernel_rfl) ?y4_5 HS9 ?r4_5
             case y4_5 => intro wx hx; obtain ⟨h0, h1, h2, h3, h4, h5, h6⟩ := hx; go_simp; try (with_reducible rfl)
             simp only [Act.put, List.setIfInBounds_toArray, List.set_cons_zero, List.set_cons_succ]
             refine anyL_tk (i := 5) (v := ?v5_6) aZ5 (by kernel_rfl) ?y5_6 HS9 ?r5_6
             case y5_6 => intro wx hx; obtain ⟨h0, h1, h2, h3, h4, h5, h6⟩ := hx; go_simp; try (with_reducible rfl)
             simp only [Act.put, List.setIfInBounds_toArray, List.set_cons_zero, List.set_cons_succ]
             refine anyL_tk (i := 6) (v := ?v6_7) aZ6 (by kernel_rfl) ?y6_7 HS9 ?r6_7
             case y6_7 => intro wx hx; obtain ⟨h0, h1, h2, h3, h4, h5, h6⟩ := hx; go_simp; try (with_reducible rfl)
             simp only [Act.put, List.setIfInBounds_toArray, List.set_cons_zero, List.set_cons_succ]
             refine anyL_tk (i := 7) (v := ?v7_8) aZ7 (by kernel_rfl) ?y7_8 HS9 ?r7_8
             case y7_8 => intro wx hx; obtain ⟨h0, h1, h2, h3, h4, h5, h6⟩ := hx; go_simp; try (with_reducible rfl)
             simp only [Act.put, List.setIfInBounds_toArray, List.set_cons_zero, List.set_cons_succ]
             refine anyL_tk (i := 8) (v := ?v8_9) aZ8 (by kernel_rfl) ?y8_9 HS9 ?r8_9
             case y8_9 => intro wx hx; obtain ⟨h0, h1, h2, h3, h4, h5, h6⟩ := hx; go_simp; try (with_reducible rfl)
             simp only [Act.put, List.setIfInBounds_toArray, List.set_cons_zero, List.set_cons_succ]
             refine anyL_one (i := 9) aZ9 (by kernel_rfl) rfl (fun K hK => ?_)
             go_simp
             with_reducible refine (bestT_any w0.heap.size w2.heap.size (el ms3 t) ((t : Int), Y) _ _ _ _ _ (HNE9.out.below ((Below.refl _ _).drew)) (HNV9.out.below ((Below.refl _ _).drew)) HYL.out).mono ?_
             rintro e wa ⟨aa9, ca9, rfl, hna, hba⟩
             have HBA : Hid (Below w9.heap.size w9 wa) := ((Below.refl _ _).drew).trans hba
             have HNA := hidP hna
             have HTA9 := hidP (HT9.out.below HBA.out)
             obtain ⟨an4, cn4, m0', m1', m2', _, f0, f1, f2⟩ := HTA9.out.get (j := t) (by rw [hN3.out.1]; exact htn)
             have BPA := hidP (HP9.out.below HBA.out HP9.out.lt)
             have BAA := hidP (BA9.out.below HBA.out BA9.out.lt)
             have HSA' : Held8 w0.heap.size (t * 3) wr.heap.size w8.heap.size (.int .i64 (el ms3 t).1) (.int .i64 (el ms3 t).2.1) (.slice at9 (el ms3 t).2.2.length ct9) (.int .i64 (t : Int)) (.int .i64 (t : Int)) (.int .i64 Y.1) (.slice av Y.2.length cv) wa := ⟨m0', m1', by have h9 := (HBA.out.cell (p := ⟨w0.heap.size, t * 3 + 2, none⟩) zB9).trans HS9.2.2.1; exact h9, BAA.out.cell 3 rfl, BPA.out.cell 0 rfl, BPA.out.cell 1 rfl, BPA.out.cell 2 rfl⟩
             have HT10 := hidP (HTA9.out.put (j := t) (by rw [hN3.out.1]; exact htn) HNA.out)
             have HR10 : Hid (TRel l.length (putT N3 (t : Int) Y) (ms3.set t (bstM (el ms3 t) ((t : Int), Y)))) := hN3.out.bst htn HYL.out
             have zA : w0.heap.size < wa.heap.size := HTA9.out.lt
             have HBRA : Hid (Below wr.heap.size wr wa) := HB9.out.trans (HBA.out.mono HB9.out.size)
             have bKA := hidP (bK3.out.below HBRA.out bK3.out.lt)
             have zKA : w5.heap.size < wa.heap.size := bKA.out.lt
             clear hna hba
             refine hK _ _ (.inr HSA') ?_
             try simp only [Act.put, List.setIfInBounds_toArray, List.set_cons_zero, List.set_cons_succ]
             refine anyL_one (i := 10) aZ10 (by kernel_rfl) rfl (fun K hK => ?_)
             go_simp
             refine hK _ _ (.inr HSA') ?_
             try simp only [Act.put, List.setIfInBounds_toArray, List.set_cons_zero, List.set_cons_succ]
             refine anyL_one (i := 11) aZ11 (by kernel_rfl) rfl (fun K hK => ?_)
             go_simp
             refine hK _ _ (.inl rfl) (anyL_done (by kernel_rfl) (NoPanic.normal ?_))
             try simp only [Act.put, List.setIfInBounds_toArray, List.set_cons_zero, List.set_cons_succ]
             clear HS9 HSA' m0' m1' m2' f0 f1 f2
             go_wp2
             go_roundw
             case rel => exact ⟨i2 + 1, _, _, by omega, by go_num, HT10, HR10, HST2, ((bKA.out.setO _ _ (by show w5.heap.size ≠ w0.heap.size; omega)).setO _ _ (by show w5.heap.size ≠ w0.heap.size; omega)).setO _ _ (by show w5.heap.size ≠ w0.heap.size; omega), by simp; omega, by show Below _ _ _; have h9 := hb3.out.trans (HBRA.out.mono hb3.out.size); go_grown⟩
             case measure => simp [intOf]; omega
            ·have HST2 : Hid (MinT (StpI SK (p1, p2) lab (la.take (i2 + 1))) N3) := by
              show MinT _ _
              have h := HST.out
              rw [HT2.out]
              simp only at h
              rw [if_neg hb0] at h
              exact h
             have hbe : (b0 == lab) = false := by simp [hb0]
             clear HST
             go_wp2
             go_quiet (fail)
             have HWQ : Hid (Below wr.heap.size wr ((wr.alloc (.cells #[.int .i64 b0, .int .i64 b1, .int .i64 b2, .int .i64 (t : Int)] 75)).drewN nq)) := below_drewN HW6.out _
             go_wp2
             go_roundw
             case rel => exact ⟨i2 + 1, ms3, N3, by omega, by go_num, hT3.out.below HWQ.out, hN3, HST2, bK3.out.below HWQ.out bK3.out.lt, by simp; omega, hb3.out.trans (HWQ.out.mono hb3.out.size)⟩
             case measure => simp [intOf]; omega
           ·have hil2 : i2 = La := by omega
            have hnl2 : (La : Int) ≤ (i2 : Int) := by omega
            have HFM : Hid (MinT (StpK (z, l) (nl.take (k + 1)) lab) N3) := HFIN.out _ (by have h := hmin3.out; rw [hil2, HTA.out] at h; exact h)
            go_wp2
            go_roundw
            case rel => exact ⟨k + 1, ms3, N3, by omega, by go_num, hT3, hN3, HFM, hT3.out.lt, hb3⟩
            case measure => simp [intOf]; omega
         ·have hkl : k = nl.length := by omega
          have hnk : (nl.length : Int) ≤ (k : Int) := by omega
          have HMS : Hid (MinT (StpL (z, l) (tblT nl) lab) N) := stpK_end hris.out (by have h := hmin.out; rw [hkl, HTE.out] at h; exact h)
          have HDN : Hid (DomT l.length N) := minS_dom HF.out HMS.out
          have HBN : Hid (BndT (1000000000 + 1000000000) (800 + 61 * i + 1) N) := minS_bnd HF.out hBT.out HMS.out
          have HNZN : Hid (NzT N) := stpL_nz (tblT_nz hNz.out) HMS.out
          have HMT : Hid (MarksX w2.heap.size wr (.slice (some ⟨w0.heap.size, 0, none⟩) l.length l.length) ms2) := by
           have h := hT.out.marksX (X := w2.heap.size) (by have h8 := HPT.out; omega)
           rw [hN.out.1] at h
           exact h
          have HBW := hidP (hb.out.trans (hb2.out.mono hb.out.size))
          have BT4 := hidP (bT.out.below hb2.out bT.out.lt)
          have hPr : w2.heap.size < wr.heap.size := by have h9 := hb2.out.size; have h8 := HPT.out; omega
          go_wp2_with (first
           | (go_at_call 33; (with_reducible refine (asRunR_any _ (z, l) _ ms2 N _ _ (r.1 + (i : Int) + 1) w2.heap.size _ hPr (HM.out.later HBW.out (Nat.le_refl _)) HK.out HF.out HMT.out HNZN.out hN.out HDN.out HBN.out (by omega) (by omega)).mono ?_); rintro e w4 ⟨⟨rf, rl⟩, ec, has, v4, rfl, hx4, hb4⟩; obtain ⟨vs4, rfl, hmx⟩ := hx4; simp only at hmx; obtain ⟨a4, c4, rfl⟩ := hmx.sl; have HX4 := hidP hmx; obtain ⟨K', hclo, hcase⟩ := has; have HCLO := hidP hclo; have BT5 := hidP (BT4.out.below hb4 BT4.out.lt); have B105 := hidP (B104.out.below hb4 B104.out.lt); have BM5 := hidP (BM4.out.below hb4 BM4.out.lt); have HB5 : Hid (Below w.heap.size w w4) := HBW.out.trans (hb4.mono HBW.out.size); have x0 := BT5.out.cell 0 (v := .int .i64 0) rfl; have x1 := BT5.out.cell 1 (v := .slice none 0 0) rfl; have tt0 := BT5.out.fz 0; have tt1 := BT5.out.fz 1; have u0 := B105.out.cell 0 (v := .int .i64 (r.1 + i)) rfl; have u1 := B105.out.cell 1 (v := .slice an nl.length cn) rfl; have uf0 := B105.out.fz 0; have uf1 := B105.out.fz 1; have zt := BT5.out.lt; have zu := B105.out.lt; have zz4 := hb4.size; clear hmx hclo hb4; rcases hcase with ⟨hov, he, rfl⟩ | ⟨hov, he, rfl⟩ <;> simp only [Prod.mk.injEq] at he <;> obtain ⟨rfl, rfl⟩ := he))
          ·have HFT : Hid (FedT (z, l) (tblT r.2) x none) := hst.out none (by rw [HDRi.out]; exact .over HMS.out HCLO.out hov)
           exact bodyPost_ret (v := .tuple #[.agg #[.int .i64 0, .slice none 0 0], .int .i64 4]) (by simp [results, Try.results17, go_sem, *]) rfl ⟨(0, []), 4, HPA.out none HFT.out, _, rfl, ⟨_, rfl, [], .inl ⟨rfl, rfl⟩, rfl, by simp⟩, by have h9 := HB5.out; go_grown⟩
          ·have HDK : Hid (DomT l.length K') := fun q y hq => (HCLO.out.1 q y hq).dom HDN.out (arcs_ok HF.out)
           have HNO := hidP hov
           have HBK : Hid (BndT 1000000000 (800 + 61 * (i + 1)) K') := fun q y hq => by
            have e := HCLO.out.one (itT_clo HDN.out (arcs_ok HF.out))
            have h2 := hq
            rw [e] at h2
            have h3 := itT_bnd HF.out HBN.out _ q y h2
            have h4 : ¬ 1000000000 < y.1 := fun h => HNO.out ⟨q, y, hq, h⟩
            omega
           have HTO : Hid (tblT (ordL l.length K') = K') := tblT_ordL HDK.out
           have HST5 : Hid (∀ res, FedT (z, l) (tblT (ordL l.length K')) (x.drop (i + 1)) res → FedT (z, l) (tblT r.2) x res) := fun res hres => by
            refine hst.out res ?_
            rw [HDRi.out]
            rw [HTO.out] at hres
            exact .on HMS.out HCLO.out HNO.out hres
           have hee : r.1 + ((i + 1 : Nat) : Int) = r.1 + (i : Int) + 1 := by omega
           go_roundw
           case rel => exact ⟨i + 1, _, ordL l.length K', by omega, by go_num, by rw [hee]; exact ((B105.out.set 0 _).set 1 _).alloc _, MarksX.next HX4.out (fun b hb hx => (Below.heap_alloc _ _ b (by simpa using hb)).trans ((Below.heap_setCell _ _ _ b hx).trans (Below.heap_setCell _ _ _ b hx))) (by simp), risB_ordL _ _, by rw [HTO.out]; exact HDK.out, by rw [HTO.out]; exact HBK.out, (HCLO.out.nz HNZN.out).list, HST5, (by show _ = _; rw [HTO.out]), ((BM5.out.setO _ _ (by show w.heap.size ≠ w2.heap.size; omega)).setO _ _ (by show w.heap.size ≠ w2.heap.size; omega)).alloc _, ((BT5.out.setO _ _ (by show w.heap.size + 2 ≠ w2.heap.size; omega)).setO _ _ (by show w.heap.size + 2 ≠ w2.heap.size; omega)).alloc _, by simp; omega, by show Below _ _ _; have h9 := HB5.out; have h8 := HB2.out.size; go_grown⟩
           case measure => simp [intOf]; omega
       ·have hil : i = x.length := by omega
        have hnl9 : (x.length : Int) ≤ (i : Int) := by omega
        have HFT : Hid (FedT (z, l) (tblT r.2) x (some (tblT nl))) := hst.out _ (by rw [hil, HDE.out]; exact .nil _)
        have HRR : Hid (FedAns (z, l) r x (r.1 + (i : Int), nl) 0) := by
         have h : FedAns (z, l) r x (r.1 + (x.length : Int), ordL l.length (tblT nl)) 0 := HPA.out (some (tblT nl)) HFT.out
         rw [← hord.out] at h
         rw [hil]
         exact h
        have y0 := bT.out.cell 0 (v := .int .i64 0) rfl
        have y1 := bT.out.cell 1 (v := .slice none 0 0) rfl
        have tt0 := bT.out.fz 0
        have tt1 := bT.out.fz 1
        have zt := bT.out.lt
        have HMZ : Hid (Marks ((wr.setCell ⟨w.heap.size + 2, 0, none⟩ (.int .i64 (r.1 + i))).setCell ⟨w.heap.size + 2, 1, none⟩ (.slice an nl.length cn)) (.slice an nl.length cn) nl) := (hMX.out.zero hNz.out bT.out (fun b hb hx => (Below.heap_setCell _ _ _ b hx).trans (Below.heap_setCell _ _ _ b hx)) (by simp) (by omega)).marks
        clear hil HFT hMX hst hord hDT hBT hris HPA
        go_wp2
        exact bodyPost_ret (v := .tuple #[.agg #[.int .i64 (r.1 + i), .slice an nl.length cn], .int .i64 0]) (by simp [results, Try.results17, go_sem, *]) rfl ⟨(r.1 + (i : Int), nl), 0, HRR.out, _, rfl, ⟨_, rfl, HMZ.out⟩, by have h9 := hb.out; go_grown⟩
end Go.Proofs.Ytkeeiihaijhdoaa.Sm
