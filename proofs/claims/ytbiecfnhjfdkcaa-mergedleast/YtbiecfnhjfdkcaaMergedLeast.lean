/- The statement MergedLeast: whatever numbers a machine is made of, behind Merged each arc that is left was there, and of those that are alike but for the weight just one is left, no heavier than any, for every input and without any condition. -/
import Derived.Test.YtbiecfnhjfdkcaaMd
import Derived.Test.YtbiecfnhjfdkcaaAw
import Derived.Test.YtbiecfnhjfdkcaaKc
import Derived.Lib.SmallJoins
import Derived.ChangeOld
import Derived.Below
namespace Go.Proofs.Ytbiecfnhjfdkcaa.mergedLeast
open Go.ChangeShapes Go.WideShapes Go.ChangeAt Go.RowKit
open Go.Proofs.Ytbiecfnhjfdkcaa.Pl Go.Proofs.Ytbiecfnhjfdkcaa.Wt
set_option linter.unusedVariables false
set_option linter.unusedSimpArgs false

theorem own : ownKnob Try.prog.godebug = none := by kernel_rfl
theorem laidOut : laidOutB Try.prog = true := by kernel_rfl
theorem len_arcN {l : List St} {j : Nat} (h : j < l.length) : (el l j).2.length ≤ arcN l := by
  induction l generalizing j with
  | nil => simp at h
  | cons s l ih =>
    cases j with
    | zero => rw [el_zero]; simp [arcN]
    | succ j => rw [el_succ]; have := ih (j := j) (by simpa using h); simp only [arcN]; omega
theorem ok_right {m : Mc} (h : faultM m = 0) : okM m := by
  have h1 := right_size (z := m.1) (l := m.2) h
  refine ⟨by omega, fun j hj => ?_⟩
  have := len_arcN hj
  omega
theorem made6 (v : Value) (r : Rw) (full : Bool) (w : World) (h : RawV w v r) (hok : okR r) (hwf : wfR r) :
    Calls Try.prog 9 #[v, .int .i64 6, .bool full] w fun e w' => ∃ v', e = .returned v' ∧ Mach w' v' (madeM r 6 full) ∧ Below w.heap.size w w' := made_any v r 6 full w h hok hwf (by omega) (by omega)
set_option maxRecDepth 100000 in
set_option maxHeartbeats 6400000 in
theorem walk (v : Value) (m : Rw) (w : World) (h : RawV w v m ∧ okR m ∧ wfR m) :
    Calls Try.prog 8 #[v] w fun e w' => e = .returned (.bool true) ∧ Below w.heap.size w w' := by
  obtain ⟨h, hok, hwf⟩ := h
  have HI : Hid (RawV w v m) := h
  have HOK : Hid (okR m) := hok
  have HWF : Hid (wfR m) := hwf
  have hf := madeM_right m 6 (by omega) (by omega) false
  generalize hM : madeM m 6 false = M at hf
  have HMM : Hid (madeM m 6 false = M) := hM
  clear hM
  obtain ⟨z, l⟩ := M
  have HF : Hid (faultM (z, l) = 0) := hf
  have HSM : Hid (resM 0 (mapM (fun l => lightL (sortS false l)) (z, l)) = (z, l.map fun s => (s.1, lightL (sortS false s.2)))) := rfl
  have HEL : Hid (∀ j, j < l.length → el (l.map fun s => (s.1, lightL (sortS false s.2))) j = ((el l j).1, lightL (sortS false (el l j).2))) := fun j hj => el_map hj _
  have hlen : (l.map fun s => (s.1, lightL (sortS false s.2))).length = l.length := by simp
  have h60 : l.length ≤ 60 := (right_size hf).1
  have HAR : Hid (∀ j, j < l.length → (el l j).2.length ≤ 400) := fun j hj => Nat.le_trans (len_arcN hj) (right_size hf).2
  clear hf hok hwf
  generalize hS : (l.map fun s => (s.1, lightL (sortS false s.2))) = sl at *
  clear hS
  have HLS : Hid (sl.length = l.length) := hlen
  clear hlen
  obtain ⟨vs, rfl, hN⟩ := h
  obtain ⟨ra, rcap, rfl, _⟩ := hN.get
  clear hN
  have HB0 : Hid (Below w.heap.size w (w.alloc (.cells #[.int .i64 m.1, .slice ra m.2.length rcap] 24))) := (Below.refl _ _).alloc (Nat.le_refl _) _
  go_enter Try.func8, Try.ntmps8
  go_wp2_with (first
    | (go_at_call 9; (with_reducible refine (made6 _ m false _ (HI.out.later HB0.out (Nat.le_refl _)) HOK.out HWF.out).mono ?_); rintro e w1 ⟨v1, rfl, hi, hb⟩; rw [HMM.out] at hi; have HI1 : Hid (Mach w1 v1 (z, l)) := hi; obtain ⟨vs1, rfl, hS1⟩ := hi; obtain ⟨a1, cap1, rfl⟩ := hS1.sl; simp only at HI1; clear hS1; obtain ⟨s1, b1, hb1⟩ := boxed hb (by simp); have HB1 : Hid (Below w.heap.size w w1) := hb1; clear b1 hb1 hb)
    | (go_at_call 18; (with_reducible refine (merged_any _ (z, l) _ (HI1.out.later (B := w1.heap.size) (by go_grown) (Nat.le_refl _)) (ok_right HF.out) 0 HF.out).mono ?_); rintro e w2 ⟨v2, rfl, hi, hb⟩; rw [HSM.out] at hi; have hi := hi.mach; have HI2 : Hid (Mach w2 v2 (z, sl)) := hi; obtain ⟨vs2, rfl, hS2⟩ := hi; obtain ⟨a2, cap2, hv2⟩ := hS2.sl; (replace hv2 : vs2 = Value.slice a2 l.length cap2 := hv2.trans (by rw [show sl.length = l.length from HLS.out])); subst hv2; simp only at HI2; clear hS2; obtain ⟨s2, b2, hb2⟩ := boxed hb (by simp); have d0 := b2.cell 0 (v := .int .i64 z) rfl; have d1 := b2.cell 1 (v := .slice a1 l.length cap1) rfl; have HB2 : Hid (Below w.heap.size w w2) := HB1.out.trans (hb2.mono HB1.out.size); have HM2 : Hid (Mach w2 (.agg #[.int .i64 z, .slice a1 l.length cap1]) (z, l)) := HI1.out.later hb2 (Nat.le_refl _); have y1 : w1.heap.size < w2.heap.size := World.block_lt_of_cell? _ _ d0; clear b2 hb2 hb))
  have HCM : Hid (∀ j, j < l.length → ∃ b off va, a1 = some ⟨b, off, none⟩ ∧ b < w2.heap.size ∧ w2.cell? ⟨b, off + j * 2, none⟩ = some (.int .i64 (el l j).1) ∧ w2.cell? ⟨b, off + j * 2 + 1, none⟩ = some va ∧ Arcs w2 va (el l j).2) := by
    obtain ⟨vv, hv, hS⟩ := HM2.out
    obtain ⟨aa, cc, hv2, hc⟩ := hS.get
    rw [hv2] at hv
    simp only [Value.agg.injEq, Array.mk.injEq, List.cons.injEq, Value.slice.injEq, true_and, and_true] at hv
    intro j hj
    obtain ⟨b, off, va, h1, h2⟩ := hc j hj
    exact ⟨b, off, va, hv.1.trans h1, h2⟩
  have HCS : Hid (∀ j, j < l.length → ∃ b off va, a2 = some ⟨b, off, none⟩ ∧ b < w2.heap.size ∧ w2.cell? ⟨b, off + j * 2, none⟩ = some (.int .i64 (el l j).1) ∧ w2.cell? ⟨b, off + j * 2 + 1, none⟩ = some va ∧ Arcs w2 va (lightL (sortS false (el l j).2))) := by
    obtain ⟨vv, hv, hS⟩ := HI2.out
    obtain ⟨aa, cc, hv2, hc⟩ := hS.get
    rw [hv2] at hv
    simp only [Value.agg.injEq, Array.mk.injEq, List.cons.injEq, Value.slice.injEq, true_and, and_true] at hv
    intro j hj
    obtain ⟨b, off, va, h1, h2⟩ := hc j (by show j < sl.length; rw [HLS.out]; exact hj)
    simp only [HEL.out j hj] at h2
    exact ⟨b, off, va, hv.1.trans h1, h2⟩
  have k0 : (w2.alloc (.cells #[.int .i64 z, .slice a2 l.length cap2] 27)).cell? ⟨w2.heap.size, 1, none⟩ = some (.slice a2 l.length cap2) := (Blk.made _ _ _).cell 1 rfl
  have d1' : (w2.alloc (.cells #[.int .i64 z, .slice a2 l.length cap2] 27)).cell? ⟨w1.heap.size, 1, none⟩ = some (.slice a1 l.length cap1) := low d1 ((Below.refl _ _).alloc (Nat.le_refl _) _)
  have hbw : Below w2.heap.size w2 (w2.alloc (.cells #[.int .i64 z, .slice a2 l.length cap2] 27)) := (Below.refl _ _).alloc (Nat.le_refl _) _
  have hsw : w2.heap.size < (w2.alloc (.cells #[.int .i64 z, .slice a2 l.length cap2] 27)).heap.size := by simp
  clear HI1 HI2 HM2 HB1 d0 d1
  generalize w2.alloc (.cells #[.int .i64 z, .slice a2 l.length cap2] 27) = w5 at k0 d1' hbw hsw ⊢
  have HBW : Hid (Below w2.heap.size w2 w5) := hbw
  clear hbw
  go_loopw [6] (fun i wr => ∃ k : Nat, k ≤ l.length ∧ i = .int .i64 k ∧ Hid (Below w5.heap.size w5 wr)) (fun i _ => l.length - (intOf i).toNat)
  case atStart => exact ⟨0, Nat.zero_le _, rfl, Below.refl _ _⟩
  case round =>
    obtain ⟨k, hk, rfl, hb⟩ := hrel
    have q1 := (hb.out.cell (p := ⟨w1.heap.size, 1, none⟩) (Nat.lt_trans y1 hsw)).trans d1'
    have q2 := (hb.out.cell (p := ⟨w2.heap.size, 1, none⟩) hsw).trans k0
    by_cases hlt : k < l.length
    · obtain ⟨b, off, va, rfl, hbl, g0, g1, gA⟩ := HCM.out k hlt
      obtain ⟨b2, off2, va2, rfl, hbl2, r0, r1, rA⟩ := HCS.out k hlt
      have hb2w : Below w2.heap.size w2 wr := HBW.out.trans (hb.out.mono HBW.out.size)
      have g1' := (hb2w.cell (p := ⟨b, off + k * 2 + 1, none⟩) hbl).trans g1
      have r1' := (hb2w.cell (p := ⟨b2, off2 + k * 2 + 1, none⟩) hbl2).trans r1
      clear hb2w
      have hk0 : (0 : Int) ≤ (k : Int) := by omega
      have hk1 : (k : Int) < (l.length : Int) := by omega
      have HAK := HAR.out k hlt
      have HMEM : Hid (∀ a ∈ lightL (sortS false (el l k).2), 0 < cntA (el l k).2 a) := fun a ha => cntA_pos (merge_sub _ a ha)
      have HONE : Hid (∀ x ∈ (el l k).2, (lightL (sortS false (el l k).2)).countP (fun y => lessB y x) = 1) := fun x hx => light_count hx
      have hml := merge_le (el l k).2
      clear g0 r0 g1 r1
      generalize (el l k).2 = ar at *
      generalize lightL (sortS false ar) = sar at *
      have GA : Hid (Arcs w5 va ar) := gA.later HBW.out (Nat.le_refl _)
      obtain ⟨va0, vc0, rfl, hgc⟩ := GA.out.get
      have RA5 : Arcs w5 va2 sar := rA.later HBW.out (Nat.le_refl _)
      obtain ⟨vb0, vd0, rfl, hrc⟩ := RA5.get
      have HGC : Hid (∀ j, j < ar.length → ∃ b off, va0 = some ⟨b, off, none⟩ ∧ b < w5.heap.size ∧ w5.cell? ⟨b, off + j * 4, none⟩ = some (.int .i64 (el ar j).1) ∧ w5.cell? ⟨b, off + j * 4 + 1, none⟩ = some (.int .i64 (el ar j).2.1) ∧ w5.cell? ⟨b, off + j * 4 + 2, none⟩ = some (.int .i64 (el ar j).2.2.1) ∧ w5.cell? ⟨b, off + j * 4 + 3, none⟩ = some (.int .i64 (el ar j).2.2.2)) := hgc
      have HRC : Hid (∀ j, j < sar.length → ∃ b off, vb0 = some ⟨b, off, none⟩ ∧ b < w5.heap.size ∧ w5.cell? ⟨b, off + j * 4, none⟩ = some (.int .i64 (el sar j).1) ∧ w5.cell? ⟨b, off + j * 4 + 1, none⟩ = some (.int .i64 (el sar j).2.1) ∧ w5.cell? ⟨b, off + j * 4 + 2, none⟩ = some (.int .i64 (el sar j).2.2.1) ∧ w5.cell? ⟨b, off + j * 4 + 3, none⟩ = some (.int .i64 (el sar j).2.2.2)) := hrc
      clear hgc hrc rA RA5 gA
      generalize hL : ar.length = L at *
      have HL : Hid (ar.length = L) := hL
      generalize hL2 : sar.length = L2 at *
      have HL2 : Hid (sar.length = L2) := hL2
      clear hL hL2
      go_wp2
      go_loopw [9] (fun i wr => ∃ j : Nat, j ≤ L2 ∧ i = .int .i64 j ∧ Hid (Below w5.heap.size w5 wr)) (fun i _ => L2 - (intOf i).toNat)
      case atStart => exact ⟨0, Nat.zero_le _, rfl, hb⟩
      case round =>
        obtain ⟨j, hj, rfl, hbi⟩ := hrel
        by_cases hjl : j < L2
        · obtain ⟨b3, off3, rfl, hb3l, e0, e1, e2, e3⟩ := HRC.out j hjl
          have e0 := (hbi.out.cell (p := ⟨b3, off3 + j * 4, none⟩) hb3l).trans e0
          have e1 := (hbi.out.cell (p := ⟨b3, off3 + j * 4 + 1, none⟩) hb3l).trans e1
          have e2 := (hbi.out.cell (p := ⟨b3, off3 + j * 4 + 2, none⟩) hb3l).trans e2
          have e3 := (hbi.out.cell (p := ⟨b3, off3 + j * 4 + 3, none⟩) hb3l).trans e3
          have hj0 : (0 : Int) ≤ (j : Int) := by omega
          have hj1 : (j : Int) < (L2 : Int) := by omega
          have GA2 : Hid (Arcs wr (.slice va0 L vc0) ar) := GA.out.later hbi.out (Nat.le_refl _)
          have hpos := HMEM.out (el sar j) (el_mem (by rw [HL2.out]; exact hjl))
          generalize hcn : cntA ar (el sar j) = c at hpos
          have HC1 : Hid (cntA ar (el sar j) = c) := hcn
          have HLB : Hid (ar.length ≤ 4398046511104) := by show _ ≤ _; rw [HL.out]; omega
          clear hcn
          have hne : ¬ (c : Int) = 0 := by omega
          have hne2 : ((c : Int) == 0) = false := by simpa using hne
          generalize el sar j = p at *
          go_wp2_with (first
            | (go_at_call 20; (with_reducible refine (keepCount_any _ ar p _ GA2.out HLB.out c HC1.out).mono ?_); rintro e w6 ⟨rfl, hb6⟩; have HB6 : Hid (Below w5.heap.size w5 w6) := hbi.out.trans (hb6.mono hbi.out.size); clear hb6))
          go_roundw
          case rel => exact ⟨j + 1, by omega, by go_num, HB6⟩
          case measure => simp [intOf]; omega
        · have hnl : ¬ (j : Int) < (L2 : Int) := by omega
          go_wp2
          go_loopw [10] (fun i wr => ∃ t : Nat, t ≤ L ∧ i = .int .i64 t ∧ Hid (Below w5.heap.size w5 wr)) (fun i _ => L - (intOf i).toNat)
          case atStart => exact ⟨0, Nat.zero_le _, rfl, hbi⟩
          case round =>
            obtain ⟨t, ht, rfl, hbt⟩ := hrel
            by_cases htl : t < L
            · obtain ⟨b4, off4, rfl, hb4l, f0, f1, f2, f3⟩ := HGC.out t htl
              have ht0 : (0 : Int) ≤ (t : Int) := by omega
              have ht1 : (t : Int) < (L : Int) := by omega
              have HONE2 := HONE.out (el ar t) (el_mem (by rw [HL.out]; exact htl))
              generalize el ar t = x at *
              go_wp2
              go_loopw [11, 12] (fun cc i wr => ∃ u c : Nat, u ≤ L2 ∧ cc = .int .i64 (c : Int) ∧ i = .int .i64 u ∧ Hid ((sar.take u).countP (fun y => lessB y x) = c) ∧ Hid (Below w5.heap.size w5 wr)) (fun _ i _ => L2 - (intOf i).toNat)
              case atStart => exact ⟨0, 0, Nat.zero_le _, rfl, rfl, rfl, hbt⟩
              case round =>
                obtain ⟨u, c, hu, rfl, rfl, hcu, hbu⟩ := hrel
                have hc4 : c ≤ L2 := by
                  have h1 := List.countP_le_length (p := fun y => lessB y x) (l := sar.take u)
                  rw [hcu.out, List.length_take] at h1
                  omega
                have hL2b : L2 ≤ 400 := by omega
                by_cases hul : u < L2
                · obtain ⟨b5, off5, rfl, hb5l, p0, p1, p2, p3⟩ := HRC.out u hul
                  have p0 := (hbu.out.cell (p := ⟨b5, off5 + u * 4, none⟩) hb5l).trans p0
                  have p1 := (hbu.out.cell (p := ⟨b5, off5 + u * 4 + 1, none⟩) hb5l).trans p1
                  have p2 := (hbu.out.cell (p := ⟨b5, off5 + u * 4 + 2, none⟩) hb5l).trans p2
                  have p3 := (hbu.out.cell (p := ⟨b5, off5 + u * 4 + 3, none⟩) hb5l).trans p3
                  have x0 := (hbu.out.cell (p := ⟨b4, off4 + t * 4, none⟩) hb4l).trans f0
                  have x1 := (hbu.out.cell (p := ⟨b4, off4 + t * 4 + 1, none⟩) hb4l).trans f1
                  have x2 := (hbu.out.cell (p := ⟨b4, off4 + t * 4 + 2, none⟩) hb4l).trans f2
                  have x3 := (hbu.out.cell (p := ⟨b4, off4 + t * 4 + 3, none⟩) hb4l).trans f3
                  have hu0 : (0 : Int) ≤ (u : Int) := by omega
                  have hu1 : (u : Int) < (L2 : Int) := by omega
                  have HT := countP_take (l := sar) (k := u) (by rw [HL2.out]; exact hul) (fun y => lessB y x)
                  rw [hcu.out] at HT
                  clear f0 f1 f2 f3 hcu
                  generalize el sar u = p at *
                  by_cases c0 : p.1 = x.1
                  · rw [← c0] at x0
                    by_cases c1 : p.2.1 = x.2.1
                    · rw [← c1] at x1
                      by_cases c3 : p.2.2.2 = x.2.2.2
                      · rw [← c3] at x3
                        by_cases c2 : p.2.2.1 ≤ x.2.2.1
                        · have HE : Hid ((sar.take (u + 1)).countP (fun y => lessB y x) = c + 1) := by show _ = _; rw [HT, if_pos (less_iff.2 ⟨c0, c1, c3, c2⟩)]
                          clear HT c0 c1 c3
                          go_wp2
                          go_quiet (fail)
                          go_wp2
                          go_roundw
                          case rel => exact ⟨u + 1, c + 1, by omega, by go_num, by go_num, HE, below_drewN hbu.out _⟩
                          case measure => simp [intOf]; omega
                        · have HE : Hid ((sar.take (u + 1)).countP (fun y => lessB y x) = c) := by show _ = _; rw [HT, if_neg (fun h => c2 (less_iff.1 h).2.2.2)]; rfl
                          clear HT c0 c1 c3
                          go_wp2
                          go_quiet (fail)
                          go_wp2
                          go_roundw
                          case rel => exact ⟨u + 1, c, by omega, rfl, by go_num, HE, below_drewN hbu.out _⟩
                          case measure => simp [intOf]; omega
                      · have HE : Hid ((sar.take (u + 1)).countP (fun y => lessB y x) = c) := by show _ = _; rw [HT, if_neg (fun h => c3 (less_iff.1 h).2.2.1)]; rfl
                        have n3 : (p.2.2.2 == x.2.2.2) = false := by simpa using c3
                        clear HT c0 c1
                        go_wp2
                        go_quiet (fail)
                        go_wp2
                        go_roundw
                        case rel => exact ⟨u + 1, c, by omega, rfl, by go_num, HE, below_drewN hbu.out _⟩
                        case measure => simp [intOf]; omega
                    · have HE : Hid ((sar.take (u + 1)).countP (fun y => lessB y x) = c) := by show _ = _; rw [HT, if_neg (fun h => c1 (less_iff.1 h).2.1)]; rfl
                      have n1 : (p.2.1 == x.2.1) = false := by simpa using c1
                      clear HT c0
                      go_wp2
                      go_quiet (fail)
                      go_wp2
                      go_roundw
                      case rel => exact ⟨u + 1, c, by omega, rfl, by go_num, HE, below_drewN hbu.out _⟩
                      case measure => simp [intOf]; omega
                  · have HE : Hid ((sar.take (u + 1)).countP (fun y => lessB y x) = c) := by show _ = _; rw [HT, if_neg (fun h => c0 (less_iff.1 h).1)]; rfl
                    have n0 : (p.1 == x.1) = false := by simpa using c0
                    clear HT
                    go_wp2
                    go_quiet (fail)
                    go_wp2
                    go_roundw
                    case rel => exact ⟨u + 1, c, by omega, rfl, by go_num, HE, below_drewN hbu.out _⟩
                    case measure => simp [intOf]; omega
                · have hnu : ¬ (u : Int) < (L2 : Int) := by omega
                  have hc1 : c = 1 := by
                    have h := hcu.out
                    rw [show u = sar.length by rw [HL2.out]; omega, List.take_length] at h
                    rw [← h]; exact HONE2
                  subst hc1
                  go_wp2
                  go_roundw
                  case rel => exact ⟨t + 1, by omega, by go_num, hbu⟩
                  case measure => simp [intOf]; omega
            · have hnt : ¬ (t : Int) < (L : Int) := by omega
              go_wp2
              go_roundw
              case rel => exact ⟨k + 1, by omega, by go_num, hbt⟩
              case measure => simp [intOf]; omega
    · have hnl : ¬ (k : Int) < (l.length : Int) := by omega
      go_wp2
      go_ret
      exact ⟨rfl, HB2.out.trans ((HBW.out.trans (hb.out.mono HBW.out.size)).mono HB2.out.size)⟩

set_option maxRecDepth 100000 in
theorem lifted (os : Os) (started : os.Started) (H : Type) (enc : TypeId × Value → H) :
    ReturnsInHanded {} Try.checked os 8 .any (Rows.mergedLeastSpec.pre6 enc Try.prog Try.f8 Rows.mergedLeastRow.domain false) (Rows.mergedLeastSpec.post enc Try.prog Try.f8 false true false false) := by
  refine returnsInHanded_of_change_sized (C := Try.checked) own started (by kernel_rfl) Try.func8
    (ChangeSpec.witness6 (enc := enc) (C := Try.checked) false ⟨#[], #[.agg #[.int .i64 0, .slice none 0 0]], []⟩ 8 (by kernel_rfl) (by kernel_rfl) (by kernel_rfl) (by kernel_rfl)) ?_
  intro W base args ds gs before hval0 hW hcnd hsz0 _
  have hsz : (DataW.weightsEach Try.prog (Try.f8.params.toList ++ Rows.mergedLeastSpec.plain.varTypes Try.prog) (ds ++ gs)).all (· ≤ reachBytes) = true := hsz0
  have hval : ∀ (j : Nat) t v, Try.f8.params[j]? = some t → args[j]? = some v → Value.okWide Try.prog W .any base t v := hval0
  clear hval0 hsz0
  have hW' := hW
  obtain ⟨p, q, hA0, hV, rfl, hfz, hnd⟩ := hW
  have hA : DataW.TrodAll enc Try.prog W 0 (fun _ => true) true Try.f8.params.toList args.toList ds p := hA0
  rw [Try.params8] at hA hval hsz
  obtain ⟨v0, vs0, d0, ds0, p0, q0, hargs, rfl, rfl, h0, r0⟩ := trodAll_cons hA
  obtain ⟨rfl, rfl, rfl⟩ := trodAll_nil r0
  obtain rfl : args = #[v0] := by cases args; simp_all
  obtain ⟨rfl, rfl⟩ := trodVars_none hV
  have k0 := h0
  have lt0 : ∀ x ∈ p0, x.block < W.heap.size := by obtain ⟨m, hm⟩ := k0; exact DataW.trod_lt m _ _ _ hm
  obtain ⟨z0, w0⟩ : ∃ m : Rw, RawV W v0 m ∧ okR m ∧ wfR m := by
    obtain ⟨c0, c1, y0, y1, n, rfl, hd, hp, t0, t1⟩ := Go.Joins.open_agg2 Try.underlying24 (by kernel_rfl) (by kernel_rfl) (hval 0 24 v0 rfl rfl) h0
    subst hd
    exact open_raw t0 t1 ((Fits.arg hsz (j := 0) rfl rfl).field Try.underlying24 (f := 1) rfl rfl)
  refine (walk v0 z0 W w0).mono fun e W' ⟨he, bel⟩ => ?_
  subst he
  exact ⟨_, rfl, _, _, _, [], _, [], hW', trodAll_mk1 (shut_bool Try.underlying4 _), (trodAll_cons_mk (Below.trod laidOut (by kernel_rfl) (of_decide_eq_true (by kernel_rfl)) k0 bel lt0) trodAll_mk0), rfl, bel.frame _, fun h => by cases h⟩
end Go.Proofs.Ytbiecfnhjfdkcaa.mergedLeast
namespace Go.Proofs.Ytbiecfnhjfdkcaa
theorem mergedLeast_holds : Rows.MergedLeastSaid :=
  OpenClaim.holds_of_wide 8 Try.f8 rfl rfl rfl rfl rfl rfl rfl ⟨rfl, rfl, rfl, rfl, rfl⟩ rfl rfl rfl rfl rfl (by kernel_rfl) Try.func8 (by kernel_rfl)
    (of_decide_eq_true (by kernel_rfl)) (by unfold Func.isWrapper; first | (rw [if_pos (by decide +kernel)]; kernel_rfl) | (rw [if_neg (by decide +kernel)]; exact ⟨rfl, rfl⟩))
    (fun os started H enc _ => mergedLeast.lifted os started H enc)
#print axioms mergedLeast_holds
end Go.Proofs.Ytbiecfnhjfdkcaa
