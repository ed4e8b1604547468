/- The best mark that may end (the program's). -/
import Derived.Test.YtkeeiihaijhdoaaSkg
namespace Go.Proofs.Ytkeeiihaijhdoaa.Sm
open Go.ChangeShapes Go.WideShapes Go.ChangeAt Go.RowKit
open Go.Proofs.Ytkeeiihaijhdoaa.Pl Go.Proofs.Ytkeeiihaijhdoaa.Wt
set_option linter.unusedVariables false
set_option linter.unusedSimpArgs false
theorem runB_el {n : Int} {r : Ru} (h : runB n r = true) : ∀ j, j < r.2.length → 0 ≤ (el r.2 j).1 ∧ (el r.2 j).1 < n ∧ 0 ≤ (el r.2 j).2.1 ∧ (el r.2 j).2.1 ≤ 1000000000 ∧ (el r.2 j).2.2.length ≤ 800 := by
  intro j hj
  simp only [runB, Bool.and_eq_true] at h
  have h1 := risB_el h.1.2 j hj
  have h2 := List.all_eq_true.1 h.2 _ (el_mem hj)
  simp only [mkB, inB, Bool.and_eq_true, decide_eq_true_eq] at h2
  exact ⟨h1.1, h1.2, h2.1.1.1, h2.1.1.2, h2.1.2⟩
theorem fin_rng {z : Int} {l : List St} (h : faultM (z, l) = 0) {j : Nat} (hj : j < l.length) : 0 ≤ (el l j).1 ∧ (el l j).1 ≤ 1000000001 ∧ ((el l j).1 ≠ 1000000001 → (el l j).1 ≤ 1000000000) := by
  have h1 := (right_st h hj).1
  simp only [finB, inB, Bool.or_eq_true, Bool.and_eq_true, decide_eq_true_eq, beq_iff_eq] at h1
  omega
set_option maxRecDepth 100000 in
set_option maxHeartbeats 3200000 in
theorem bestEnd_any (v vr : Value) (m : Mc) (r : Ru) (w : World) (h : Mach w v m) (hok : okM m) (hr : RunV w vr r) (hou : okU r) (hf : faultM m = 0) (hrun : runB m.2.length r = true) :
    Calls Try.prog 43 #[v, vr] w fun e w' => ∃ (q c : Int) (vo : Value) (o : List Int), e = .returned (.tuple #[.agg #[.int .i64 q, .int .i64 c, vo], .bool (endL (finS m) r.2).isSome]) ∧ Nums w' vo o ∧ (∀ b, endL (finS m) r.2 = some b → b = (c, o)) ∧ Below w.heap.size w w' := by
  have HRE := hidP (runB_el hrun)
  obtain ⟨z, l⟩ := m
  obtain ⟨vs, rfl, hS⟩ := h
  obtain ⟨a, cap, rfl, hcs⟩ := hS.get
  obtain ⟨f, ml⟩ := r
  obtain ⟨vm, rfl, hMk⟩ := hr
  obtain ⟨am, cm, rfl, hc⟩ := hMk.get
  have HC : Hid (∀ j, j < ml.length → ∃ b off vo, am = some ⟨b, off, none⟩ ∧ b < w.heap.size ∧ w.cell? ⟨b, off + j * 3, none⟩ = some (.int .i64 (el ml j).1) ∧ w.cell? ⟨b, off + j * 3 + 1, none⟩ = some (.int .i64 (el ml j).2.1) ∧ w.cell? ⟨b, off + j * 3 + 2, none⟩ = some vo ∧ Nums w vo (el ml j).2.2) := hc
  have HCS : Hid (∀ j, j < l.length → ∃ b off va, a = some ⟨b, off, none⟩ ∧ b < w.heap.size ∧ w.cell? ⟨b, off + j * 2, none⟩ = some (.int .i64 (el l j).1) ∧ w.cell? ⟨b, off + j * 2 + 1, none⟩ = some va ∧ Arcs w va (el l j).2) := hcs
  have HF : Hid (∀ j, j < l.length → 0 ≤ (el l j).1 ∧ (el l j).1 ≤ 1000000001 ∧ ((el l j).1 ≠ 1000000001 → (el l j).1 ≤ 1000000000)) := fun j hj => fin_rng hf hj
  have h60 : l.length ≤ 60 := (right_size hf).1
  have hL40 : ml.length * 40 ≤ 140737488351232 := hou.1
  have HFS : Hid (∀ j : Nat, finS (z, l) j = (el l j).1) := fun j => by simp [finS]
  have HT : Hid (∀ k, k < ml.length → endL (finS (z, l)) (ml.take (k + 1)) = endK (finS (z, l)) (endL (finS (z, l)) (ml.take k)) (el ml k)) := fun k hk => endL_take hk
  have HE : Hid (endL (finS (z, l)) (ml.take ml.length) = endL (finS (z, l)) ml) := by show _ = _; rw [List.take_length]
  have H0 : Hid (endL (finS (z, l)) (ml.take 0) = none) := rfl
  clear hS hok hou hMk hc hcs hf hrun
  simp only at HRE ⊢
  have hnot : ∀ (x : Bool) (w : World), (Op.unary .not (.bool x)).run Try.prog w = .ok (.bool (!x)) w := fun _ _ => rfl
  generalize endL (finS (z, l)) ml = R at *
  generalize finS (z, l) = F at *
  generalize ml.length = L at *
  generalize l.length = n at *
  go_enter Try.func43, Try.ntmps43
  go_wp2
  go_loopw [7, 14] (fun s7 i wr => ∃ (k : Nat) (q c : Int) (vo : Value) (o : List Int) (acc : Option Ky) (fd : Bool), k ≤ L ∧ Hid (endL F (ml.take k) = acc) ∧ Hid (acc.isSome = fd) ∧ s7 = .bool fd ∧ i = .int .i64 k ∧ Hid (Blk wr (w.heap.size + 3) #[.int .i64 q, .int .i64 c, vo] 67) ∧ Hid (Nums w vo o) ∧ Hid (∀ b, acc = some b → b = (c, o)) ∧ o.length ≤ 800 ∧ Hid (Blk wr w.heap.size #[.int .i64 z, .slice a n cap] 24) ∧ Hid (Blk wr (w.heap.size + 2) #[.int .i64 0, .int .i64 0, .slice none 0 0] 67) ∧ w.heap.size + 4 ≤ wr.heap.size ∧ Hid (Below w.heap.size w wr)) (fun _ i _ => L - (intOf i).toNat)
  case atStart => exact ⟨0, 0, 0, .slice none 0 0, [], none, false, Nat.zero_le _, H0, rfl, rfl, rfl, by (have h := Blk.made (((w.alloc (.cells #[.int .i64 z, .slice a n cap] 24)).alloc (.cells #[.int .i64 f, .slice am L cm] 28)).alloc (.cells #[.int .i64 0, .int .i64 0, .slice none 0 0] 67)) #[.int .i64 0, .int .i64 0, .slice none 0 0] 67; simp only [World.size_alloc] at h; exact h), .inl ⟨rfl, rfl⟩, (by intro b hb; cases hb), by simp, ((Blk.made w _ _).alloc _).alloc _ |>.alloc _, by (have h := Blk.made ((w.alloc (.cells #[.int .i64 z, .slice a n cap] 24)).alloc (.cells #[.int .i64 f, .slice am L cm] 28)) #[.int .i64 0, .int .i64 0, .slice none 0 0] 67; simp only [World.size_alloc] at h; exact h.alloc _), by simp, by show Below _ _ _; go_grown⟩
  case round =>
    obtain ⟨k, q, c, vo, o, acc, fd, hk, hacc, hfd, rfl, rfl, bB, hno, hag, ho8, bM, b4, hs, hb⟩ := hrel
    obtain ⟨avo, cvo, rfl⟩ := Row.sl hno.out
    have d0 := bB.out.cell 0 (v := .int .i64 q) rfl
    have d1 := bB.out.cell 1 (v := .int .i64 c) rfl
    have d2 := bB.out.cell 2 (v := .slice avo o.length cvo) rfl
    have hf0 := bB.out.fz 0
    have hf1 := bB.out.fz 1
    have hf2 := bB.out.fz 2
    have z0 : w.heap.size < wr.heap.size := by omega
    have z2 : w.heap.size + 2 < wr.heap.size := by omega
    have z3 : w.heap.size + 3 < wr.heap.size := by omega
    by_cases hlt : k < L
    · have m1 := bM.out.cell 1 (v := .slice a n cap) rfl
      obtain ⟨b, off, vi, rfl, hbl, g0, g1, g2, hN⟩ := HC.out k hlt
      obtain ⟨r0, r1, r2, r3, r4⟩ := HRE.out k hlt
      obtain ⟨j, hj⟩ : ∃ j : Nat, (el ml k).1 = (j : Int) := ⟨(el ml k).1.toNat, by omega⟩
      have hjn : j < n := by omega
      obtain ⟨sb, soff, sva, rfl, hsb, s0, s1, _⟩ := HCS.out j hjn
      have g0 := (hb.out.cell (p := ⟨b, off + k * 3, none⟩) hbl).trans g0
      have g1 := (hb.out.cell (p := ⟨b, off + k * 3 + 1, none⟩) hbl).trans g1
      have g2 := (hb.out.cell (p := ⟨b, off + k * 3 + 2, none⟩) hbl).trans g2
      have s0 := (hb.out.cell (p := ⟨sb, soff + j * 2, none⟩) hsb).trans s0
      have zb : b < wr.heap.size := Nat.lt_of_lt_of_le hbl hb.out.size
      have zs : sb < wr.heap.size := Nat.lt_of_lt_of_le hsb hb.out.size
      have HT1 : Hid (endL F (ml.take (k + 1)) = endK F acc (el ml k)) := by show _ = _; rw [HT.out k hlt, hacc.out]
      obtain ⟨f0, f1, f2⟩ := HF.out j hjn
      have hFj : F (el ml k).1 = (el l j).1 := by rw [hj]; exact HFS.out j
      obtain ⟨ao, co, rfl⟩ := Row.sl hN
      have HN : Hid (Nums w (.slice ao (el ml k).2.2.length co) (el ml k).2.2) := hN
      have hk0 : (0 : Int) ≤ (k : Int) := by omega
      have hk1 : (k : Int) < (L : Int) := by omega
      have hj0 : (0 : Int) ≤ (j : Int) := by omega
      have hj1 : (j : Int) < (n : Int) := by omega
      clear hN hbl hsb s1
      generalize el ml k = p at *
      obtain ⟨p0, p1, p2⟩ := p
      simp only at g0 g1 g2 r0 r1 r2 r3 r4 hj HT1 hFj HN
      subst hj
      have HFj := hidP hFj
      clear hFj
      generalize (el l j).1 = fj at *
      by_cases hfj : fj = 1000000001
      · have HK : Hid (endL F (ml.take (k + 1)) = acc) := by show _ = _; rw [HT1.out]; simp only [endK]; rw [HFj.out, if_pos hfj]
        subst hfj
        clear f0 f1 f2
        go_wp2
        go_roundw
        case rel => exact ⟨k + 1, q, c, _, o, acc, fd, by omega, HK, hfd, rfl, by go_num, bB.out.alloc _, hno.out, hag.out, ho8, bM.out.alloc _, b4.out.alloc _, by simp; omega, by show Below _ _ _; have h9 := hb.out; go_grown⟩
        case measure => simp [intOf]; omega
      · have f3 := f2 hfj
        clear f2 f1
        have HW1 : Hid (Below wr.heap.size wr (wr.alloc (.cells #[.int .i64 j, .int .i64 (p1 + fj), .slice ao p2.length co] 67))) := by show Below _ _ _; go_grown
        have HWW : Hid (Below w.heap.size w (wr.alloc (.cells #[.int .i64 j, .int .i64 (p1 + fj), .slice ao p2.length co] 67))) := hb.out.trans (HW1.out.mono hb.out.size)
        have HB1 : Hid (Blk (wr.alloc (.cells #[.int .i64 j, .int .i64 (p1 + fj), .slice ao p2.length co] 67)) wr.heap.size #[.int .i64 j, .int .i64 (p1 + fj), .slice ao p2.length co] 67) := Blk.made wr _ _
        rcases acc with _ | bk
        · have hfd0 : fd = false := by rw [← hfd.out]; rfl
          subst hfd0
          have HK : Hid (endL F (ml.take (k + 1)) = some (p1 + fj, p2)) := by show _ = _; rw [HT1.out]; simp only [endK]; rw [HFj.out, if_neg hfj]
          clear HT1 HFj
          go_wp2
          go_roundw
          case rel => exact ⟨k + 1, j, p1 + fj, _, p2, some (p1 + fj, p2), true, by omega, HK, rfl, rfl, by go_num, (((bB.out.set 0 _).set 1 _).set 2 _).alloc _, HN.out, (by intro b hb; cases hb; rfl), r4, ((((bM.out.setO _ _ (by first | (simp; done) | (simp; omega))).setO _ _ (by first | (simp; done) | (simp; omega))).setO _ _ (by first | (simp; done) | (simp; omega))).alloc _), ((((b4.out.setO _ _ (by first | (simp; done) | (simp; omega))).setO _ _ (by first | (simp; done) | (simp; omega))).setO _ _ (by first | (simp; done) | (simp; omega))).alloc _), by simp; omega, by show Below _ _ _; have h9 := hb.out; go_grown⟩
          case measure => simp [intOf]; omega
        · have hfd0 : fd = true := by rw [← hfd.out]; rfl
          subst hfd0
          obtain rfl := hag.out bk rfl
          have HK : Hid (endL F (ml.take (k + 1)) = if betB (p1 + fj, p2) (c, o) = true then some (p1 + fj, p2) else some (c, o)) := by show _ = _; rw [HT1.out]; simp only [endK]; rw [HFj.out, if_neg hfj]
          clear HT1 HFj
          by_cases hbt : betB (p1 + fj, p2) (c, o) = true
          · have HK2 : Hid (endL F (ml.take (k + 1)) = some (p1 + fj, p2)) := by show _ = _; rw [HK.out]; simp [hbt]
            have HBT := hidP hbt
            clear HK hbt
            go_wp2_with (first
              | (go_at_call 62; (with_reducible refine (isBetter_any _ _ (j, p1 + fj, p2) (q, c, o) _ (mkIs_of (HN.out.later HWW.out (Nat.le_refl _))) (mkIs_of (hno.out.later HWW.out (Nat.le_refl _))) (by simp only; omega)).mono ?_); rintro e w3 ⟨rfl, hb3⟩; rw [HBT.out]; have HB3 : Hid (Below wr.heap.size wr w3) := HW1.out.trans (hb3.mono HW1.out.size); have B1 := HB1.out.below hb3 HB1.out.lt; have q0 := B1.cell 0 (v := .int .i64 j) rfl; have q1 := B1.cell 1 (v := .int .i64 (p1 + fj)) rfl; have q2 := B1.cell 2 (v := .slice ao p2.length co) rfl; have bB3 := hidP (bB.out.below HB3.out (by omega)); have t0 := bB3.out.fz 0; have t1 := bB3.out.fz 1; have t2 := bB3.out.fz 2; have u0 := bB3.out.cell 0 (v := .int .i64 q) rfl; have u1 := bB3.out.cell 1 (v := .int .i64 c) rfl; have u2 := bB3.out.cell 2 (v := .slice avo o.length cvo) rfl; have zz := HB3.out.size; clear B1 hb3))
            go_roundw
            case rel => exact ⟨k + 1, j, p1 + fj, _, p2, some (p1 + fj, p2), true, by omega, HK2, rfl, rfl, by go_num, (((bB3.out.set 0 _).set 1 _).set 2 _), HN.out, (by intro b hb; cases hb; rfl), r4, (bM.out.below HB3.out (by omega)).setO _ _ (by first | (simp; done) | (simp; omega)) |>.setO _ _ (by first | (simp; done) | (simp; omega)) |>.setO _ _ (by first | (simp; done) | (simp; omega)), (b4.out.below HB3.out (by omega)).setO _ _ (by first | (simp; done) | (simp; omega)) |>.setO _ _ (by first | (simp; done) | (simp; omega)) |>.setO _ _ (by first | (simp; done) | (simp; omega)), by simp; omega, by show Below _ _ _; have h9 := hb.out.trans (HB3.out.mono hb.out.size); go_grown⟩
            case measure => simp [intOf]; omega
          · have HK2 : Hid (endL F (ml.take (k + 1)) = some (c, o)) := by show _ = _; rw [HK.out]; simp [hbt]
            have HBT : Hid (betB (p1 + fj, p2) (c, o) = false) := by show _ = _; simpa using hbt
            clear HK hbt
            go_wp2_with (first
              | (go_at_call 62; (with_reducible refine (isBetter_any _ _ (j, p1 + fj, p2) (q, c, o) _ (mkIs_of (HN.out.later HWW.out (Nat.le_refl _))) (mkIs_of (hno.out.later HWW.out (Nat.le_refl _))) (by simp only; omega)).mono ?_); rintro e w3 ⟨rfl, hb3⟩; rw [HBT.out]; have HB3 : Hid (Below wr.heap.size wr w3) := HW1.out.trans (hb3.mono HW1.out.size); have zz := HB3.out.size; clear hb3))
            go_roundw
            case rel => exact ⟨k + 1, q, c, _, o, some (c, o), true, by omega, HK2, rfl, rfl, by go_num, bB.out.below HB3.out (by omega), hno.out, hag.out, ho8, bM.out.below HB3.out (by omega), b4.out.below HB3.out (by omega), by omega, hb.out.trans (HB3.out.mono hb.out.size)⟩
            case measure => simp [intOf]; omega
    · have hnl : ¬ (k : Int) < (L : Int) := by omega
      have hkn : k = L := by omega
      have HR : Hid (acc = R) := by show _ = _; rw [← hacc.out, hkn, HE.out]
      have HAG : Hid (∀ b, R = some b → b = (c, o)) := by rw [← HR.out]; exact hag.out
      have hAR := HR.out
      subst hAR
      have e0 := b4.out.fz 0
      have e1 := b4.out.fz 1
      have e2 := b4.out.fz 2
      clear hacc hag HR
      go_wp2_with (first
        | (go_at_call 53; (with_reducible refine (copied_any _ (q, c, o) _ (mkIs_of (hno.out.later hb.out (Nat.le_refl _))) (by simp only; omega)).mono ?_); rintro e w3 ⟨v3, rfl, ho, hb3⟩; have HO : Hid (OwnN w3 wr.heap.size v3 o) := ho; obtain ⟨a3, c3, rfl⟩ := ho.sl; have HB3 := hidP hb3; have B4 := hidP (b4.out.below hb3 (by omega)); have t0 := B4.out.fz 0; have t1 := B4.out.fz 1; have t2 := B4.out.fz 2; have u0 := B4.out.cell 0 (v := .int .i64 0) rfl; have u1 := B4.out.cell 1 (v := .int .i64 0) rfl; have u2 := B4.out.cell 2 (v := .slice none 0 0) rfl; clear hb3 ho))
      exact bodyPost_ret (v := .tuple #[.agg #[.int .i64 q, .int .i64 c, .slice a3 o.length c3], .bool fd]) (by simp [results, Try.results43, go_sem, *]) rfl ⟨q, c, _, o, by rw [hfd.out], (((HO.out.set (by show w.heap.size + 2 < _; omega) _).set (by show w.heap.size + 2 < _; omega) _).set (by show w.heap.size + 2 < _; omega) _).nums, HAG.out, by have h9 := hb.out.trans (HB3.out.mono hb.out.size); go_grown⟩
end Go.Proofs.Ytkeeiihaijhdoaa.Sm
