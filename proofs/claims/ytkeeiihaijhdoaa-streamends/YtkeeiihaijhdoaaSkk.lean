/- What the reference answers to the end of a run. -/
import Derived.Test.YtkeeiihaijhdoaaSki
import Derived.Test.YtkeeiihaijhdoaaSkj
namespace Go.Proofs.Ytkeeiihaijhdoaa.Sm
open Go.ChangeShapes Go.WideShapes Go.ChangeAt Go.RowKit
open Go.Proofs.Ytkeeiihaijhdoaa.Pl Go.Proofs.Ytkeeiihaijhdoaa.Wt
set_option linter.unusedVariables false
set_option linter.unusedSimpArgs false
set_option maxRecDepth 100000 in
set_option maxHeartbeats 4000000 in
theorem endR_any (v vr : Value) (m : Mc) (r : Ru) (w : World) (h : Mach w v m) (hok : okM m) (hr : RunV w vr r) (hou : okU r) :
    Calls Try.prog 20 #[v, vr] w fun e w' => EndRes (endA m r) w e w' := by
  have HM := hidP h
  have HK := hidP hok
  have HR := hidP hr
  have HO := hidP hou
  by_cases hf : faultM m = 0
  · have h60 : Hid (m.2.length ≤ 60) := by obtain ⟨z, l⟩ := m; exact (right_size hf).1
    by_cases hrun : runB m.2.length r = true
    · have HRUN := hidP hrun
      have HRE := hidP (runB_el hrun)
      have hx : chkA m r = 0 := by unfold chkA; rw [if_neg (by omega), if_pos hrun]
      have HE := hidP (endA_ok hx)
      obtain ⟨z, l⟩ := m
      obtain ⟨vs, rfl, hS⟩ := h
      obtain ⟨a, cap, rfl, hcs⟩ := hS.get
      obtain ⟨f, ml⟩ := r
      obtain ⟨vm, rfl, hMk⟩ := hr
      obtain ⟨am, cm, rfl, hc⟩ := hMk.get
      have HC : Hid (∀ j, j < ml.length → ∃ b off vo, am = some ⟨b, off, none⟩ ∧ b < w.heap.size ∧ w.cell? ⟨b, off + j * 3, none⟩ = some (.int .i64 (el ml j).1) ∧ w.cell? ⟨b, off + j * 3 + 1, none⟩ = some (.int .i64 (el ml j).2.1) ∧ w.cell? ⟨b, off + j * 3 + 2, none⟩ = some vo ∧ Nums w vo (el ml j).2.2) := hc
      have HCS : Hid (∀ j, j < l.length → ∃ b off va, a = some ⟨b, off, none⟩ ∧ b < w.heap.size ∧ w.cell? ⟨b, off + j * 2, none⟩ = some (.int .i64 (el l j).1) ∧ w.cell? ⟨b, off + j * 2 + 1, none⟩ = some va ∧ Arcs w va (el l j).2) := hcs
      have HF : Hid (∀ j, j < l.length → 0 ≤ (el l j).1 ∧ (el l j).1 ≤ 1000000001 ∧ ((el l j).1 ≠ 1000000001 → (el l j).1 ≤ 1000000000)) := fun j hj => fin_rng hf hj
      have hL40 : ml.length * 40 ≤ 140737488351232 := hou.1
      have hl32 : l.length ≤ 60 := h60.out
      have HFS : Hid (∀ j : Nat, finS (z, l) j = (el l j).1) := fun j => by simp [finS]
      have HT : Hid (∀ k, k < ml.length → endL (finS (z, l)) (ml.take (k + 1)) = endK (finS (z, l)) (endL (finS (z, l)) (ml.take k)) (el ml k)) := fun k hk => endL_take hk
      have HT2 : Hid (endL (finS (z, l)) (ml.take ml.length) = endL (finS (z, l)) ml) := by show _ = _; rw [List.take_length]
      have H0 : Hid (endL (finS (z, l)) (ml.take 0) = none) := rfl
      have HRM : Hid (∀ W v vr, Mach W v (z, l) → RunV W vr (f, ml) → Calls Try.prog 39 #[v, vr] W fun e w' => e = .returned (.bool true) ∧ Below W.heap.size W w') := fun W v vr h1 h2 => runMay_any v vr (z, l) (f, ml) W h1 hok h2 hou h60.out true HRUN.out
      have HFz := hidP hf
      have HU : Hid (Below w.heap.size w ((w.alloc (.cells #[.int .i64 z, .slice a l.length cap] 24)).alloc (.cells #[.int .i64 f, .slice am ml.length cm] 28))) := by show Below _ _ _; go_grown
      have hnot : ∀ (x : Bool) (w : World), (Op.unary .not (.bool x)).run Try.prog w = .ok (.bool (!x)) w := fun _ _ => rfl
      clear hS hok hou hMk hc hcs hf hrun hx
      simp only at HRE HE
      generalize endA (z, l) (f, ml) = E at *
      generalize endL (finS (z, l)) ml = R at *
      generalize finS (z, l) = F at *
      generalize hLn : ml.length = L at *
      have HLn := hidP hLn
      generalize hnn : l.length = n at *
      have Hnn := hidP hnn
      clear hLn hnn
      go_enter Try.func20, Try.ntmps20
      go_wp2_with (first
        | (go_at_call 31; (with_reducible refine (fault_any _ (z, l) _ (HM.out.later HU.out (Nat.le_refl _)) HK.out 0 HFz.out).mono ?_); rintro e w1 ⟨rfl, hb⟩; obtain ⟨s1, b1, b2, hb1⟩ := boxedTwo hb (by simp); have HB1 : Hid (Below w.heap.size w w1) := hb1; have c0 := b1.cell 0 (v := .int .i64 z) rfl; have c1 := b1.cell 1 (v := .slice a n cap) rfl; have c2 := b2.cell 0 (v := .int .i64 f) rfl; have c3 := b2.cell 1 (v := .slice am L cm) rfl; have BM1 := hidP b1; have BR1 := hidP b2; clear hb hb1 b1 b2)
        | (go_at_call 39; (with_reducible refine (HRM.out _ _ _ (HM.out.later HB1.out (Nat.le_refl _)) (HR.out.later HB1.out (Nat.le_refl _))).mono ?_); rintro e w2 ⟨rfl, hb⟩; have HB2 : Hid (Below w.heap.size w w2) := HB1.out.trans (hb.mono HB1.out.size); have BM2 := hidP (BM1.out.below hb BM1.out.lt); have BR2 := hidP (BR1.out.below hb BR1.out.lt); have zz := hb.size; clear hb c0 c1 c2 c3))
      go_loopw [9] (fun i wr => ∃ (k : Nat) (q c : Int) (vo : Value) (o : List Int) (acc : Option Ky), k ≤ L ∧ Hid (endL F (ml.take k) = acc) ∧ i = .int .i64 k ∧ Hid (Blk wr w2.heap.size #[.int .i64 q, .int .i64 c, vo] 67) ∧ Hid (Nums w vo o) ∧ o.length ≤ 800 ∧ Hid (acc = none → q < 0) ∧ Hid (∀ b, acc = some b → 0 ≤ q ∧ b = (c, o)) ∧ Hid (Blk wr w.heap.size #[.int .i64 z, .slice a n cap] 24) ∧ Hid (Blk wr (w.heap.size + 1) #[.int .i64 f, .slice am L cm] 28) ∧ w2.heap.size + 1 ≤ wr.heap.size ∧ Hid (Below w.heap.size w wr)) (fun i _ => L - (intOf i).toNat)
      case atStart => exact ⟨0, -1, 0, .slice none 0 0, [], none, Nat.zero_le _, H0, rfl, Blk.made w2 _ _, .inl ⟨rfl, rfl⟩, by simp, (fun _ => by omega), (by intro b hb; cases hb), BM2.out.alloc _, BR2.out.alloc _, by simp, by show Below _ _ _; have h9 := HB2.out; go_grown⟩
      case round =>
        obtain ⟨k, q, c, vo, o, acc, hk, hacc, rfl, bB, hno, ho8, hq0, hag, bM, bR, hs, hb⟩ := hrel
        obtain ⟨avo, cvo, rfl⟩ := Row.sl hno.out
        have d0 := bB.out.cell 0 (v := .int .i64 q) rfl
        have d1 := bB.out.cell 1 (v := .int .i64 c) rfl
        have d2 := bB.out.cell 2 (v := .slice avo o.length cvo) rfl
        have hf0 := bB.out.fz 0
        have hf1 := bB.out.fz 1
        have hf2 := bB.out.fz 2
        have m1 := bM.out.cell 1 (v := .slice a n cap) rfl
        have u1 := bR.out.cell 1 (v := .slice am L cm) rfl
        have z0 : w.heap.size < wr.heap.size := by omega
        have z1 : w.heap.size + 1 < wr.heap.size := by omega
        have z2 : w2.heap.size < wr.heap.size := by omega
        by_cases hlt : k < L
        · obtain ⟨b, off, vi, rfl, hbl, g0, g1, g2, hN⟩ := HC.out k hlt
          obtain ⟨r0, r1, r2, r3, r4⟩ := HRE.out k hlt
          obtain ⟨j, hj⟩ : ∃ j : Nat, (el ml k).1 = (j : Int) := ⟨(el ml k).1.toNat, by omega⟩
          have hjn : j < n := by omega
          obtain ⟨sb, soff, sva, rfl, hsb, s0, s1, _⟩ := HCS.out j hjn
          have g0 := (hb.out.cell (p := ⟨b, off + k * 3, none⟩) hbl).trans g0
          have g1 := (hb.out.cell (p := ⟨b, off + k * 3 + 1, none⟩) hbl).trans g1
          have g2 := (hb.out.cell (p := ⟨b, off + k * 3 + 2, none⟩) hbl).trans g2
          have s0 := (hb.out.cell (p := ⟨sb, soff + j * 2, none⟩) hsb).trans s0
          have zb : b < wr.heap.size := Nat.lt_of_lt_of_le hbl hb.out.size
          have zs : sb < wr.heap.size := Nat.lt_of_lt_of_le hsb hb.out.size
          have HT1 : Hid (endL F (ml.take (k + 1)) = endK F acc (el ml k)) := by show _ = _; rw [HT.out k hlt, hacc.out]
          obtain ⟨f0, f1, f2⟩ := HF.out j hjn
          have hFj : F (el ml k).1 = (el l j).1 := by rw [hj]; exact HFS.out j
          obtain ⟨ao, co, rfl⟩ := Row.sl hN
          have HN : Hid (Nums w (.slice ao (el ml k).2.2.length co) (el ml k).2.2) := hN
          have hk0 : (0 : Int) ≤ (k : Int) := by omega
          have hk1 : (k : Int) < (L : Int) := by omega
          have hj0 : (0 : Int) ≤ (j : Int) := by omega
          have hj1 : (j : Int) < (n : Int) := by omega
          clear hN hbl hsb s1
          generalize el ml k = p at *
          obtain ⟨p0, p1, p2⟩ := p
          simp only at g0 g1 g2 r0 r1 r2 r3 r4 hj HT1 hFj HN
          subst hj
          have HFj := hidP hFj
          clear hFj
          generalize (el l j).1 = fj at *
          by_cases hfj : fj = 1000000001
          · have HK : Hid (endL F (ml.take (k + 1)) = acc) := by show _ = _; rw [HT1.out]; simp only [endK]; rw [HFj.out, if_pos hfj]
            subst hfj
            clear f0 f1 f2
            go_wp2
            go_roundw
            case rel => exact ⟨k + 1, q, c, _, o, acc, by omega, HK, by go_num, bB.out.alloc _, hno.out, ho8, hq0.out, hag.out, bM.out.alloc _, bR.out.alloc _, by simp; omega, by show Below _ _ _; have h9 := hb.out; go_grown⟩
            case measure => simp [intOf]; omega
          · have f3 := f2 hfj
            clear f2 f1
            have HW1 : Hid (Below w.heap.size w (wr.alloc (.cells #[.int .i64 j, .int .i64 p1, .slice ao p2.length co] 67))) := by show Below _ _ _; have h9 := hb.out; go_grown
            have HWW : Hid (Below wr.heap.size wr (wr.alloc (.cells #[.int .i64 j, .int .i64 p1, .slice ao p2.length co] 67))) := by show Below _ _ _; go_grown
            by_cases hc0 : q < 0 ∨ (0 ≤ (j : Int) ∧ betB (p1 + fj, p2) (c, o) = true)
            · have HCD := hidP hc0
              have HK : Hid (endL F (ml.take (k + 1)) = some (p1 + fj, p2)) := by
                show _ = _
                rw [HT1.out]; simp only [endK]; rw [HFj.out, if_neg hfj]
                rcases acc with _ | bk
                · rfl
                · obtain ⟨hq9, rfl⟩ := hag.out bk rfl
                  have hbt : betB (p1 + fj, p2) (c, o) = true := by rcases hc0 with h | ⟨_, h⟩; omega; exact h
                  simp [hbt]
              clear HT1 HFj hc0
              go_wp2_with (first
                | (go_at_call 42; (with_reducible refine (bestOf_any _ _ (q, c, o) (j, p1 + fj, p2) _ (mkIs_of (hno.out.later HW1.out (Nat.le_refl _))) (mkIs_of (HN.out.later HW1.out (Nat.le_refl _))) (by simp only; omega)).mono ?_); rintro e w3 ⟨rfl, hb3⟩; rw [if_pos HCD.out]; have HB3 : Hid (Below wr.heap.size wr w3) := HWW.out.trans (hb3.mono HWW.out.size); have bB3 := hidP (bB.out.below HB3.out (by omega)); have t0 := bB3.out.fz 0; have t1 := bB3.out.fz 1; have t2 := bB3.out.fz 2; have v0 := bB3.out.cell 0 (v := .int .i64 q) rfl; have v1 := bB3.out.cell 1 (v := .int .i64 c) rfl; have v2 := bB3.out.cell 2 (v := .slice avo o.length cvo) rfl; have zz3 := HB3.out.size; clear hb3))
              go_roundw
              case rel => exact ⟨k + 1, j, p1 + fj, _, p2, some (p1 + fj, p2), by omega, HK, by go_num, (((bB3.out.set 0 _).set 1 _).set 2 _), HN.out, r4, (by intro h; cases h), (by intro b hb; cases hb; exact ⟨hj0, rfl⟩), (((bM.out.below HB3.out (by omega)).setO _ _ (by show w.heap.size ≠ w2.heap.size; omega)).setO _ _ (by show w.heap.size ≠ w2.heap.size; omega)).setO _ _ (by show w.heap.size ≠ w2.heap.size; omega), (((bR.out.below HB3.out (by omega)).setO _ _ (by show w.heap.size + 1 ≠ w2.heap.size; omega)).setO _ _ (by show w.heap.size + 1 ≠ w2.heap.size; omega)).setO _ _ (by show w.heap.size + 1 ≠ w2.heap.size; omega), by simp; omega, by show Below _ _ _; have h9 := hb.out.trans (HB3.out.mono hb.out.size); have h8 := HB2.out.size; go_grown⟩
              case measure => simp [intOf]; omega
            · have HCD := hidP hc0
              have HK : Hid (endL F (ml.take (k + 1)) = some (c, o)) := by
                show _ = _
                rw [HT1.out]; simp only [endK]; rw [HFj.out, if_neg hfj]
                rcases acc with _ | bk
                · exact absurd (.inl (hq0.out rfl)) hc0
                · obtain ⟨hq9, rfl⟩ := hag.out bk rfl
                  have hbt : ¬ betB (p1 + fj, p2) (c, o) = true := fun h => hc0 (.inr ⟨hj0, h⟩)
                  simp [hbt]
              have hq9 : ¬ q < 0 := fun h => hc0 (.inl h)
              clear HT1 HFj hc0
              go_wp2_with (first
                | (go_at_call 42; (with_reducible refine (bestOf_any _ _ (q, c, o) (j, p1 + fj, p2) _ (mkIs_of (hno.out.later HW1.out (Nat.le_refl _))) (mkIs_of (HN.out.later HW1.out (Nat.le_refl _))) (by simp only; omega)).mono ?_); rintro e w3 ⟨rfl, hb3⟩; rw [if_neg HCD.out]; have HB3 : Hid (Below wr.heap.size wr w3) := HWW.out.trans (hb3.mono HWW.out.size); have bB3 := hidP (bB.out.below HB3.out (by omega)); have t0 := bB3.out.fz 0; have t1 := bB3.out.fz 1; have t2 := bB3.out.fz 2; have v0 := bB3.out.cell 0 (v := .int .i64 q) rfl; have v1 := bB3.out.cell 1 (v := .int .i64 c) rfl; have v2 := bB3.out.cell 2 (v := .slice avo o.length cvo) rfl; have zz3 := HB3.out.size; clear hb3))
              go_roundw
              case rel => exact ⟨k + 1, q, c, _, o, some (c, o), by omega, HK, by go_num, (((bB3.out.set 0 _).set 1 _).set 2 _), hno.out, ho8, (by intro h; cases h), (by intro b hb; cases hb; exact ⟨by omega, rfl⟩), (((bM.out.below HB3.out (by omega)).setO _ _ (by show w.heap.size ≠ w2.heap.size; omega)).setO _ _ (by show w.heap.size ≠ w2.heap.size; omega)).setO _ _ (by show w.heap.size ≠ w2.heap.size; omega), (((bR.out.below HB3.out (by omega)).setO _ _ (by show w.heap.size + 1 ≠ w2.heap.size; omega)).setO _ _ (by show w.heap.size + 1 ≠ w2.heap.size; omega)).setO _ _ (by show w.heap.size + 1 ≠ w2.heap.size; omega), by simp; omega, by show Below _ _ _; have h9 := hb.out.trans (HB3.out.mono hb.out.size); have h8 := HB2.out.size; go_grown⟩
              case measure => simp [intOf]; omega
        · have hnl : ¬ (k : Int) < (L : Int) := by omega
          have hkn : k = L := by omega
          have HR : Hid (acc = R) := by show _ = _; rw [← hacc.out, hkn, HT2.out]
          have hRa := HR.out
          subst hRa
          clear hacc HR HT2
          rcases acc with _ | bk
          · have hq9 : q < 0 := hq0.out rfl
            have hE : E = ([], 0, 12) := HE.out
            subst hE
            go_wp2
            exact bodyPost_ret (v := .tuple #[.slice none 0 0, .int .i64 0, .int .i64 12]) (by simp [results, Try.results20, go_sem, *]) rfl ⟨_, rfl, .inl ⟨rfl, rfl⟩, hb.out⟩
          · obtain ⟨hq9, rfl⟩ := hag.out bk rfl
            have hq8 : ¬ q < 0 := by omega
            by_cases hc9 : 1000000000 < c
            · have hE : E = ([], 0, 4) := by rw [HE.out]; simp [hc9]
              subst hE
              go_wp2
              exact bodyPost_ret (v := .tuple #[.slice none 0 0, .int .i64 0, .int .i64 4]) (by simp [results, Try.results20, go_sem, *]) rfl ⟨_, rfl, .inl ⟨rfl, rfl⟩, hb.out⟩
            · have hE : E = (o, c, 0) := by rw [HE.out]; simp [hc9]
              subst hE
              go_wp2
              go_quiet (fail)
              go_wp2
              exact bodyPost_ret (v := .tuple #[.slice avo o.length cvo, .int .i64 c, .int .i64 0]) (by simp [results, Try.results20, go_sem, *]) rfl ⟨_, rfl, hno.out.later (B := w.heap.size) (below_drewN hb.out _) (Nat.le_refl _), below_drewN hb.out _⟩
    · have hrf : runB m.2.length r = false := by simpa using hrun
      have hx : chkA m r = 13 := by unfold chkA; rw [if_neg (by omega), if_neg hrun]
      have hE : endA m r = ([], 0, 13) := by rw [endA_bad (by omega), hx]
      rw [hE]
      have HRF := hidP hrf
      have HFz := hidP hf
      obtain ⟨vs, rfl, hS⟩ := h
      obtain ⟨a, cap, rfl⟩ := hS.sl
      obtain ⟨vm, rfl, hMk⟩ := hr
      obtain ⟨am, cm, rfl⟩ := hMk.sl
      clear hS hok hou hMk hE hx hrf hrun hf
      have hnot : ∀ (x : Bool) (w : World), (Op.unary .not (.bool x)).run Try.prog w = .ok (.bool (!x)) w := fun _ _ => rfl
      have HU : Hid (Below w.heap.size w ((w.alloc (.cells #[.int .i64 m.1, .slice a m.2.length cap] 24)).alloc (.cells #[.int .i64 r.1, .slice am r.2.length cm] 28))) := by show Below _ _ _; go_grown
      go_enter Try.func20, Try.ntmps20
      go_wp2_with (first
        | (go_at_call 31; (with_reducible refine (fault_any _ m _ (HM.out.later HU.out (Nat.le_refl _)) HK.out 0 HFz.out).mono ?_); rintro e w1 ⟨rfl, hb⟩; obtain ⟨s1, b1, b2, hb1⟩ := boxedTwo hb (by simp); have HB1 : Hid (Below w.heap.size w w1) := hb1; have c0 := b1.cell 0 (v := .int .i64 m.1) rfl; have c1 := b1.cell 1 (v := .slice a m.2.length cap) rfl; have c2 := b2.cell 0 (v := .int .i64 r.1) rfl; have c3 := b2.cell 1 (v := .slice am r.2.length cm) rfl; clear hb hb1 b1 b2)
        | (go_at_call 39; (with_reducible refine (runMay_any _ _ m r _ (HM.out.later HB1.out (Nat.le_refl _)) HK.out (HR.out.later HB1.out (Nat.le_refl _)) HO.out h60.out false HRF.out).mono ?_); rintro e w2 ⟨rfl, hb⟩; have HB2 : Hid (Below w.heap.size w w2) := HB1.out.trans (hb.mono HB1.out.size); clear hb c0 c1 c2 c3))
      exact bodyPost_ret (v := .tuple #[.slice none 0 0, .int .i64 0, .int .i64 13]) (by simp [results, Try.results20, go_sem, *]) rfl ⟨_, rfl, .inl ⟨rfl, rfl⟩, HB2.out⟩
  · have hx : chkA m r = faultM m := by unfold chkA; rw [if_pos hf]
    have hE : endA m r = ([], 0, faultM m) := by rw [endA_bad (by omega), hx]
    rw [hE]
    generalize hq : faultM m = x at *
    have HQ := hidP hq
    obtain ⟨vs, rfl, hS⟩ := h
    obtain ⟨a, cap, rfl⟩ := hS.sl
    obtain ⟨vm, rfl, hMk⟩ := hr
    obtain ⟨am, cm, rfl⟩ := hMk.sl
    clear hS hok hou hMk hE hx hq
    have HU : Hid (Below w.heap.size w ((w.alloc (.cells #[.int .i64 m.1, .slice a m.2.length cap] 24)).alloc (.cells #[.int .i64 r.1, .slice am r.2.length cm] 28))) := by show Below _ _ _; go_grown
    go_enter Try.func20, Try.ntmps20
    go_wp2_with (first
      | (go_at_call 31; (with_reducible refine (fault_any _ m _ (HM.out.later HU.out (Nat.le_refl _)) HK.out x HQ.out).mono ?_); rintro e w1 ⟨rfl, hb⟩; obtain ⟨s1, b1, b2, hb1⟩ := boxedTwo hb (by simp); have HB1 : Hid (Below w.heap.size w w1) := hb1; clear hb hb1 b1 b2))
    exact bodyPost_ret (v := .tuple #[.slice none 0 0, .int .i64 0, .int .i64 x]) (by simp [results, Try.results20, go_sem, *]) rfl ⟨_, rfl, .inl ⟨rfl, rfl⟩, HB1.out⟩
end Go.Proofs.Ytkeeiihaijhdoaa.Sm
