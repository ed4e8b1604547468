/- The statement OrderForward: whatever numbers a machine is made of, with cycles or without, in an order each arc leads forward, and where there is none some states are led to by a cycle, for every input and without any condition. -/
import Derived.Test.YtbamaolknpffgaaFw
import Derived.Test.YtbamaolknpffgaaOq
import Derived.Test.YtbamaolknpffgaaOb
import Derived.Test.YtbamaolknpffgaaPlainOc
import Derived.Test.YtbamaolknpffgaaLo
import Derived.Lib.SmallJoins
import Derived.ChangeOld
import Derived.Below
namespace Go.Proofs.Ytbamaolknpffgaa.orderForward
open Go.ChangeShapes Go.WideShapes Go.ChangeAt Go.RowKit
open Go.Proofs.Ytbamaolknpffgaa.Pl Go.Proofs.Ytbamaolknpffgaa.Wt
set_option linter.unusedVariables false
set_option linter.unusedSimpArgs false

theorem own : ownKnob Try.prog.godebug = none := by kernel_rfl
theorem laidOut : laidOutB Try.prog = true := by kernel_rfl
theorem okF {m : Mc} (h : faultM m = 0) : okM m := by
  have h1 := right_size (z := m.1) (l := m.2) h
  refine ⟨by omega, fun j hj => ?_⟩
  have h2 := arcN_take hj
  have h3 : arcN (m.2.take (j + 1)) ≤ arcN m.2 := by
    conv => rhs; rw [← List.take_append_drop (j + 1) m.2, arcN_append]
    omega
  omega
theorem made8 (v : Value) (r : Rw) (full : Bool) (w : World) (h : RawV w v r) (hok : okR r) (hwf : wfR r) :
    Calls Try.prog 17 #[v, .int .i64 8, .bool full] w fun e w' => ∃ v', e = .returned v' ∧ Mach w' v' (madeM r 8 full) ∧ Below w.heap.size w w' := made_any v r 8 full w h hok hwf (by omega) (by omega)
theorem fwd8own (v : Value) (r : Rw) (w : World) (h : RawV w v r) (hok : okR r) (hwf : wfR r) :
    Calls Try.prog 18 #[v, .int .i64 8] w fun e w' => ∃ vs, e = .returned (.agg #[.int .i64 0, vs]) ∧ OwnSts w' w.heap.size vs (fwdM (madeM r 8 false)).2 ∧ Below w.heap.size w w' := forward_own v r 8 w h hok hwf (by omega) (by omega)
theorem set_boolB {bs : List Bool} {q : Nat} {b : Bool} : (bs.map Value.bool).toArray.setIfInBounds q (.bool b) = ((bs.set q b).map Value.bool).toArray := by simp [List.map_set]
/-- The machine that is looked at. -/
def Good (ring : Bool) (l : List St) : Prop := 0 < l.length ∧ l.length ≤ 8 ∧ (ring = false → Fwd l) ∧ ∀ q, q < l.length → ∀ a ∈ (el l q).2, ∃ t : Nat, a.2.2.2 = (t : Int) ∧ t < l.length
theorem right_to {z : Int} {l : List St} (hf : faultM (z, l) = 0) : ∀ q, q < l.length → ∀ a ∈ (el l q).2, ∃ t : Nat, a.2.2.2 = (t : Int) ∧ t < l.length := fun q hq a ha => by
  have h9 := List.all_eq_true.1 (right_st hf hq).2 a ha
  simp only [arcB, inB, Bool.and_eq_true, decide_eq_true_eq] at h9
  exact ⟨a.2.2.2.toNat, by omega, by omega⟩
theorem ans_cycle {z : Int} {l : List St} {ec : Int} {out : List Int} (h : OrdAns (z, l) 0 ec out) (hc : CycleL l) : ec = 6 ∧ out = [] := by
  unfold OrdAns at h
  rw [if_pos rfl] at h
  rcases h with ⟨_, h1⟩ | ⟨h1, _, h2⟩
  · exact absurd hc h1.noCycle
  · exact ⟨h1, h2⟩
theorem ans_fine {z : Int} {l : List St} {ec : Int} {out : List Int} (h : OrdAns (z, l) 0 ec out) (hc : ¬ CycleL l) : ec = 0 ∧ OrderL l out := by
  unfold OrdAns at h
  rw [if_pos rfl] at h
  rcases h with h1 | ⟨_, h1, _⟩
  · exact h1
  · exact absurd h1 hc
set_option maxRecDepth 100000 in
set_option maxHeartbeats 12800000 in
theorem walk (v : Value) (m : Rw) (ring : Bool) (w : World) (h : RawV w v m ∧ okR m ∧ wfR m) :
    Calls Try.prog 6 #[v, .bool ring] w fun e w' => e = .returned (.bool true) ∧ Below w.heap.size w w' := by
  obtain ⟨h, hok, hwf⟩ := h
  have HI : Hid (RawV w v m) := h
  have HOK : Hid (okR m) := hok
  have HWF : Hid (wfR m) := hwf
  have hlen : (madeM m 8 false).2.length = sizeM m 8 := statesM_length _ _ _
  have hn8 : 0 < (madeM m 8 false).2.length ∧ (madeM m 8 false).2.length ≤ 8 := by rw [hlen]; unfold sizeM; omega
  have hfM := madeM_right m 8 (by omega) (by omega) false
  have hfF := fwdM_fault hfM hn8.1
  have hfl := fwdM_length (madeM m 8 false)
  have HGM : Hid (faultM (madeM m 8 false) = 0 ∧ Good true (madeM m 8 false).2) := ⟨hfM, hn8.1, hn8.2, fun h9 => by simp at h9, right_to (z := (madeM m 8 false).1) hfM⟩
  have HGF : Hid (faultM (fwdM (madeM m 8 false)) = 0 ∧ Good false (fwdM (madeM m 8 false)).2) := ⟨hfF, by rw [hfl]; exact hn8.1, by rw [hfl]; exact hn8.2, fun _ q hq a ha => by rw [hfl] at hq ⊢; exact fwdM_later _ hq ha, right_to (z := (fwdM (madeM m 8 false)).1) hfF⟩
  clear hok hwf hlen hn8 hfM hfF hfl
  obtain ⟨vs, rfl, hN⟩ := h
  obtain ⟨ra, rcap, rfl, _⟩ := hN.get
  clear hN
  have HB0 : Hid (Below w.heap.size w (w.alloc (.cells #[.int .i64 m.1, .slice ra m.2.length rcap] 37))) := (Below.refl _ _).alloc (Nat.le_refl _) _
  have hnot : ∀ (x : Bool) (w : World), (Op.unary .not (.bool x)).run Try.prog w = .ok (.bool (!x)) w := fun _ _ => rfl
  have HM1 : Hid (fwdM (madeM m 8 false) = (0, (fwdM (madeM m 8 false)).2)) := rfl
  have HGG : Hid (faultM (0, (fwdM (madeM m 8 false)).2) = 0 ∧ Good false (fwdM (madeM m 8 false)).2) := HGF
  clear HGF
  generalize hl1 : (fwdM (madeM m 8 false)).2 = l1 at *
  have HL1 : Hid ((fwdM (madeM m 8 false)).2 = l1) := hl1
  clear hl1 HM1
  generalize hm0 : madeM m 8 false = M0 at *
  have HM0 : Hid (madeM m 8 false = M0) := hm0
  clear hm0
  obtain ⟨z0, l0⟩ := M0
  simp only at HGM
  go_enter Try.func6, Try.ntmps6
  go_upto_if 25 with (first
    | (go_at_call 17; (with_reducible refine (made8 _ m false _ (HI.out.later HB0.out (Nat.le_refl _)) HOK.out HWF.out).mono ?_); rintro e w1 ⟨v1, rfl, hi, hb⟩; rw [HM0.out] at hi; have HI1 : Hid (Mach w1 v1 (z0, l0)) := hi; obtain ⟨vs1, rfl, hS1⟩ := hi; obtain ⟨a1, cap1, rfl⟩ := hS1.sl; simp only at HI1; clear hS1; obtain ⟨s1, b1, hb1⟩ := boxed hb (by simp); have R1 : Hid (Blk w1 w.heap.size #[.int .i64 m.1, .slice ra m.2.length rcap] 37) := b1; have HB1 : Hid (Below w.heap.size w w1) := hb1; clear b1 hb1 hb))
  go_cut [] (fun wx => ∃ (z : Int) (l : List St) (a : Option Addr) (cap : Nat), Hid (Blk wx w1.heap.size #[.int .i64 z, .slice a l.length cap] 24) ∧ Hid (Mach wx (.agg #[.int .i64 z, .slice a l.length cap]) (z, l)) ∧ Hid (faultM (z, l) = 0 ∧ Good ring l) ∧ Hid (Below w.heap.size w wx))
  case first =>
    cases ring with
    | true =>
      go_wp2
      go_meet
      case rel => exact ⟨z0, l0, a1, cap1, Blk.made _ _ _, HI1.out.later ((Below.refl _ _).alloc (Nat.le_refl _) _) (Nat.le_refl _), HGM, HB1.out.alloc HB1.out.size _⟩
    | false =>
      have r0 := (R1.out.alloc (.cells #[.int .i64 z0, .slice a1 l0.length cap1] 24)).cell 0 (v := .int .i64 m.1) rfl
      have r1 := (R1.out.alloc (.cells #[.int .i64 z0, .slice a1 l0.length cap1] 24)).cell 1 (v := .slice ra m.2.length rcap) rfl
      have HBA : Hid (Below w.heap.size w (w1.alloc (.cells #[.int .i64 z0, .slice a1 l0.length cap1] 24))) := HB1.out.alloc HB1.out.size _
      have c0 := R1.out.cell 0 (v := .int .i64 m.1) rfl
      have c1 := R1.out.cell 1 (v := .slice ra m.2.length rcap) rfl
      go_wp2_with (first
        | (go_at_call 18; (with_reducible refine (fwd8own _ m _ (HI.out.later HBA.out (Nat.le_refl _)) HOK.out HWF.out).mono ?_); rintro e w2 ⟨vs2, rfl, hi, hb⟩; rw [HM0.out, HL1.out] at hi; obtain ⟨s2, b2, hb2⟩ := boxed hb (by simp); have HO2 : Hid (OwnSts w2 (w1.heap.size + 1) vs2 l1) := (by have h9 := hi; simp only [World.size_alloc] at h9; exact h9); obtain ⟨a2, cap2, rfl⟩ := hi.sts.sl; have M2 : Hid (Blk w2 w1.heap.size #[.int .i64 z0, .slice a1 l0.length cap1] 24) := b2; have e0 := b2.cell 0 (v := .int .i64 z0) rfl; have e1 := b2.cell 1 (v := .slice a1 l0.length cap1) rfl; have f0 := b2.fz 0; have f1 := b2.fz 1; have HB2 : Hid (Below w.heap.size w w2) := HB1.out.trans (hb2.mono HB1.out.size); clear b2 hb2 hb hi))
      go_meet
      case rel => exact ⟨0, l1, a2, cap2, (M2.out.set 0 _).set 1 _, ⟨_, rfl, ((HO2.out.setCell (by show w1.heap.size < _; omega) _).setCell (by show w1.heap.size < _; omega) _).sts⟩, HGG, (HB2.out.setCell (by show w.heap.size ≤ w1.heap.size; omega) _).setCell (by show w.heap.size ≤ w1.heap.size; omega) _⟩
  case rest =>
    obtain ⟨z, l, a, cap, HBM, HMA, HGD, HBX⟩ := hcut
    have HF : Hid (faultM (z, l) = 0) := HGD.out.1
    have h8 : l.length ≤ 8 := HGD.out.2.2.1
    have h0 : 0 < l.length := HGD.out.2.1
    have HTO : Hid (∀ q, q < l.length → ∀ a ∈ (el l q).2, ∃ t : Nat, a.2.2.2 = (t : Int) ∧ t < l.length) := HGD.out.2.2.2.2
    have HAR : Hid (∀ q, q < l.length → (el l q).2.length ≤ 400) := fun q hq => by
      have h1 := arcN_take hq
      have h2 : arcN (l.take (q + 1)) ≤ arcN l := by
        conv => rhs; rw [← List.take_append_drop (q + 1) l, arcN_append]
        omega
      have h3 := (right_size HGD.out.1).2
      omega
    have x0 := HBM.out.cell 0 (v := .int .i64 z) rfl
    have x1 := HBM.out.cell 1 (v := .slice a l.length cap) rfl
    have hmw := HBM.out.lt
    by_cases hcy : CycleL l
    · have hring : ring = true := by
        cases ring with
        | true => rfl
        | false => exact absurd hcy (HGD.out.2.2.2.1 rfl).order.noCycle
      subst hring
      have HCY : Hid (CycleL l) := hcy
      obtain ⟨out0, hst0, hlt0, hfr0⟩ := hcy
      have HFR : Hid (∀ q, q < l.length → ¬ FreeQ l out0 q) := hfr0
      have HLT : Hid (out0.length < l.length) := hlt0
      have hmk := run_boolsO l.length (by omega)
      clear hst0 hlt0 hfr0
      go_wp2_with (first
        | (go_at_call 9; (with_reducible refine (order_any _ (z, l) _ HMA.out (okF HF.out) 0 HF.out).mono ?_); rintro e w3 ⟨v3, ec3, rfl, ⟨out, hnu, han⟩, hb⟩; obtain ⟨hec, hou⟩ := ans_cycle han HCY.out; subst hec; rw [hou] at hnu; obtain ⟨xa, ca, hv3, _⟩ := hnu.get; (replace hv3 : v3 = Value.slice xa 0 ca := hv3); subst hv3; have x0 := low x0 hb; have x1 := low x1 hb; have hmw3 : w1.heap.size < w3.heap.size := World.block_lt_of_cell? _ _ x0; have HMA3 : Hid (Mach w3 (.agg #[.int .i64 z, .slice a l.length cap]) (z, l)) := HMA.out.later hb (Nat.le_refl _); have HB3 : Hid (Below w.heap.size w w3) := HBX.out.trans (hb.mono HBX.out.size); clear hnu han hou hb))
      have HC : Hid (∀ j, j < l.length → ∃ b off va, a = some ⟨b, off, none⟩ ∧ b < w3.heap.size ∧ w3.cell? ⟨b, off + j * 2, none⟩ = some (.int .i64 (el l j).1) ∧ w3.cell? ⟨b, off + j * 2 + 1, none⟩ = some va ∧ Arcs w3 va (el l j).2) := by
        obtain ⟨vv, hv, hS⟩ := HMA3.out
        obtain ⟨aa9, cc, hv2, hc⟩ := hS.get
        rw [hv2] at hv
        simp only [Value.agg.injEq, Array.mk.injEq, List.cons.injEq, Value.slice.injEq, true_and, and_true] at hv
        intro j hj
        obtain ⟨b, off, va, h1, h2⟩ := hc j hj
        exact ⟨b, off, va, hv.1.trans h1, h2⟩
      have HSS : Hid (∀ bs q, Sup l.length out0 bs → q < l.length → Sup l.length out0 (bs.set q (el bs q && ledB l bs l.length q))) := fun bs q hb hq => Sup.set HFR.out hb hq
      have HSO : Hid (∀ bs, Sup l.length out0 bs → (List.range l.length).any (fun q => el bs q) = true) := fun bs hb => Sup.some HLT.out hb
      generalize hn : l.length = n at *
      have HN : Hid (l.length = n) := hn
      clear hn
      go_loopw [10] (fun i wr => ∃ (k : Nat) (bs : List Bool), k ≤ n ∧ i = .int .i64 k ∧ Hid (bs.length = n ∧ ∀ j, j < k → el bs j = true) ∧ Hid (Blk wr w3.heap.size (bs.map Value.bool).toArray 4) ∧ Hid (Below w3.heap.size w3 wr)) (fun i _ => n - (intOf i).toNat)
      case atStart => exact ⟨0, List.replicate n false, Nat.zero_le _, rfl, ⟨by simp, fun j hj => absurd hj (Nat.not_lt_zero _)⟩, by (show Blk _ _ _ _); rw [show (List.map Value.bool (List.replicate n false)).toArray = Array.replicate n (Value.bool false) from by simp]; exact Blk.made _ _ _, (Below.refl _ _).alloc (Nat.le_refl _) _⟩
      case round =>
        obtain ⟨k, bs, hk, rfl, hbs, hblk, hb⟩ := hrel
        by_cases hkn : k < n
        · have hk0 : (0 : Int) ≤ (k : Int) := by omega
          have hk1 : (k : Int) < (n : Int) := by omega
          have y0 := bool_cell hblk.out (j := k) (by rw [hbs.out.1]; exact hkn)
          have y1 := hblk.out.fz k
          have HB2 : Hid (Blk (wr.setCell ⟨w3.heap.size, k, none⟩ (.bool true)) w3.heap.size ((bs.set k true).map Value.bool).toArray 4) := by have h9 := hblk.out.set k (.bool true); rw [set_bool] at h9; exact h9
          have HS2 : Hid ((bs.set k true).length = n ∧ ∀ j, j < k + 1 → el (bs.set k true) j = true) := ⟨by simpa using hbs.out.1, fun j hj => by
            rw [el_setT (by rw [hbs.out.1]; exact hkn)]
            split
            · rfl
            · exact hbs.out.2 j (by omega)⟩
          have HY2 : Hid (Below w3.heap.size w3 (wr.setCell ⟨w3.heap.size, k, none⟩ (.bool true))) := hb.out.setCell (Nat.le_refl _) _
          clear hbs hblk hb
          go_wp2
          go_roundw
          case rel => exact ⟨k + 1, _, by omega, by go_num, HS2, HB2, HY2⟩
          case measure => simp [intOf]; omega
        · have hnl : ¬ (k : Int) < (n : Int) := by omega
          have HSU : Hid (Sup n out0 bs) := ⟨hbs.out.1, fun q hq _ => hbs.out.2 q (by omega)⟩
          clear hbs
          go_wp2
          go_loopw [11] (fun i wr => ∃ (k : Nat) (bs : List Bool), k ≤ n ∧ i = .int .i64 k ∧ Hid (Sup n out0 bs) ∧ Hid (Blk wr w3.heap.size (bs.map Value.bool).toArray 4) ∧ Hid (Below w3.heap.size w3 wr)) (fun i _ => n - (intOf i).toNat)
          case atStart => exact ⟨0, bs, Nat.zero_le _, rfl, HSU, hblk, hb⟩
          case round =>
            obtain ⟨k, bs, hk, rfl, hsu, hblk, hb⟩ := hrel
            by_cases hkn : k < n
            · have hk1 : (k : Int) < (n : Int) := by omega
              go_wp2
              go_loopw [12] (fun i wr => ∃ (q : Nat) (bs : List Bool), q ≤ n ∧ i = .int .i64 q ∧ Hid (Sup n out0 bs) ∧ Hid (Blk wr w3.heap.size (bs.map Value.bool).toArray 4) ∧ Hid (Below w3.heap.size w3 wr)) (fun i _ => n - (intOf i).toNat)
              case atStart => exact ⟨0, bs, Nat.zero_le _, rfl, hsu, hblk, hb⟩
              case round =>
                obtain ⟨q, bs, hq, rfl, hsu, hblk, hb⟩ := hrel
                by_cases hqn : q < n
                · have hq0 : (0 : Int) ≤ (q : Int) := by omega
                  have hq1 : (q : Int) < (n : Int) := by omega
                  have HBL : Hid (bs.length = n) := hsu.out.1
                  go_wp2
                  go_loopw [13, 14] (fun s13 i wr => ∃ p : Nat, p ≤ n ∧ s13 = .bool (ledB l bs p q) ∧ i = .int .i64 p ∧ Hid (Blk wr w3.heap.size (bs.map Value.bool).toArray 4) ∧ Hid (Below w3.heap.size w3 wr)) (fun _ i _ => n - (intOf i).toNat)
                  case atStart => exact ⟨0, Nat.zero_le _, rfl, rfl, hblk, hb⟩
                  case round =>
                    obtain ⟨p, hp, rfl, rfl, hblk, hb⟩ := hrel
                    by_cases hpn : p < n
                    · obtain ⟨b, off, va, rfl, hbl, g0, g1, gA⟩ := HC.out p hpn
                      obtain ⟨a2, cap2, hva, hga⟩ := gA.get
                      subst hva
                      have HGA : Hid (∀ j, j < (el l p).2.length → ∃ b off, a2 = some ⟨b, off, none⟩ ∧ b < w3.heap.size ∧ w3.cell? ⟨b, off + j * 4, none⟩ = some (.int .i64 (el (el l p).2 j).1) ∧ w3.cell? ⟨b, off + j * 4 + 1, none⟩ = some (.int .i64 (el (el l p).2 j).2.1) ∧ w3.cell? ⟨b, off + j * 4 + 2, none⟩ = some (.int .i64 (el (el l p).2 j).2.2.1) ∧ w3.cell? ⟨b, off + j * 4 + 3, none⟩ = some (.int .i64 (el (el l p).2 j).2.2.2)) := hga
                      have HLD : Hid (ledB l bs (p + 1) q = (ledB l bs p q || (el bs p && (el l p).2.any (fun a => decide (a.2.2.2 = (q : Int)))))) := ledB_succ l bs p q
                      have hL4 := HAR.out p hpn
                      have hp0 : (0 : Int) ≤ (p : Int) := by omega
                      have hp1 : (p : Int) < (n : Int) := by omega
                      clear gA hga g0
                      generalize (el l p).2 = ar at *
                      generalize hL : ar.length = L at *
                      have HL : Hid (ar.length = L) := hL
                      clear hL
                      have HZ0 : Hid (ledB l bs p q = (ledB l bs p q || (el bs p && (ar.take 0).any (fun a => decide (a.2.2.2 = (q : Int)))))) := by show _ = _; simp
                      go_wp2
                      go_loopw [13, 15] (fun s13 i wr => ∃ j : Nat, j ≤ L ∧ s13 = .bool (ledB l bs p q || (el bs p && (ar.take j).any (fun a => decide (a.2.2.2 = (q : Int))))) ∧ i = .int .i64 j ∧ Hid (Blk wr w3.heap.size (bs.map Value.bool).toArray 4) ∧ Hid (Below w3.heap.size w3 wr)) (fun _ i _ => L - (intOf i).toNat)
                      case atStart => exact ⟨0, Nat.zero_le _, by rw [← HZ0.out], rfl, hblk, hb⟩
                      case round =>
                        obtain ⟨j, hj, rfl, rfl, hblk, hb⟩ := hrel
                        have x1 := (hb.out.cell (p := ⟨w1.heap.size, 1, none⟩) hmw3).trans x1
                        have g1 := (hb.out.cell (p := ⟨b, off + p * 2 + 1, none⟩) hbl).trans g1
                        by_cases hjL : j < L
                        · obtain ⟨b3, off3, rfl, hb3l, _, _, _, e3⟩ := HGA.out j hjL
                          have e3 := (hb.out.cell (p := ⟨b3, off3 + j * 4 + 3, none⟩) hb3l).trans e3
                          have y0 := bool_cell hblk.out (j := p) (by rw [HBL.out]; exact hpn)
                          have hat := all_any_take (ar := ar) (j := j) (by rw [HL.out]; exact hjL) (fun a => decide (a.2.2.2 = (q : Int)))
                          have hNX : (ledB l bs p q || (el bs p && (ar.take (j + 1)).any (fun a => decide (a.2.2.2 = (q : Int))))) = ((ledB l bs p q || (el bs p && (ar.take j).any (fun a => decide (a.2.2.2 = (q : Int))))) || (el bs p && ((el ar j).2.2.2 == (q : Int)))) := by
                            rw [hat]
                            have e9 : ((el ar j).2.2.2 == (q : Int)) = decide ((el ar j).2.2.2 = (q : Int)) := rfl
                            rw [e9]
                            cases ledB l bs p q <;> cases el bs p <;> simp
                          have HNX : Hid _ := hNX
                          clear hat hNX
                          generalize (el ar j).2.2.2 = y at *
                          generalize (ledB l bs p q || (el bs p && (ar.take j).any (fun a => decide (a.2.2.2 = (q : Int))))) = u at *
                          have hj0 : (0 : Int) ≤ (j : Int) := by omega
                          have hj1 : (j : Int) < (L : Int) := by omega
                          rcases bool_cases' u with eu | eu
                          · subst eu
                            go_wp2
                            go_roundw
                            case rel => exact ⟨j + 1, by omega, by rw [HNX.out]; rfl, by go_num, hblk, hb⟩
                            case measure => simp [intOf]; omega
                          · subst eu
                            rcases bool_cases' (el bs p) with ep | ep
                            · rw [ep] at y0
                              by_cases hy : y = (q : Int)
                              · have HE : Hid ((false || (el bs p && (y == (q : Int)))) = true) := by show _ = _; rw [ep, hy]; simp
                                subst hy
                                clear ep
                                go_wp2
                                go_roundw
                                case rel => exact ⟨j + 1, by omega, by rw [HNX.out, HE.out], by go_num, hblk, hb⟩
                                case measure => simp [intOf]; omega
                              · have hyb : (y == (q : Int)) = false := by simpa using hy
                                have HE : Hid ((false || (el bs p && (y == (q : Int)))) = false) := by show _ = _; rw [ep, hyb]; rfl
                                clear ep
                                go_wp2
                                go_roundw
                                case rel => exact ⟨j + 1, by omega, by rw [HNX.out, HE.out], by go_num, hblk, hb⟩
                                case measure => simp [intOf]; omega
                            · rw [ep] at y0
                              have HE : Hid ((false || (el bs p && (y == (q : Int)))) = false) := by show _ = _; rw [ep]; rfl
                              clear ep
                              go_wp2
                              go_roundw
                              case rel => exact ⟨j + 1, by omega, by rw [HNX.out, HE.out], by go_num, hblk, hb⟩
                              case measure => simp [intOf]; omega
                        · have hnl9 : ¬ (j : Int) < (L : Int) := by omega
                          have HJ : Hid ((ledB l bs p q || (el bs p && (ar.take j).any (fun a => decide (a.2.2.2 = (q : Int))))) = ledB l bs (p + 1) q) := by show _ = _; rw [show j = ar.length by rw [HL.out]; omega, List.take_length]; exact HLD.out.symm
                          rw [HJ.out]
                          generalize hLB : ledB l bs (p + 1) q = LB at *
                          have HLB : Hid (ledB l bs (p + 1) q = LB) := hLB
                          clear hLB
                          go_wp2
                          go_roundw
                          case rel => exact ⟨p + 1, by omega, by rw [HLB.out], by go_num, hblk, hb⟩
                          case measure => simp [intOf]; omega
                    · have hpl : ¬ (p : Int) < (n : Int) := by omega
                      have HS2 : Hid (Sup n out0 (bs.set q (el bs q && ledB l bs n q))) := HSS.out bs q hsu.out hqn
                      rw [show p = n by omega]
                      have y0 := bool_cell hblk.out (j := q) (by rw [HBL.out]; exact hqn)
                      have y1 := hblk.out.fz q
                      generalize ledB l bs n q = LB at *
                      generalize hx9 : el bs q = x9 at *
                      clear hx9
                      have HB2 : Hid (Blk (wr.setCell ⟨w3.heap.size, q, none⟩ (.bool (x9 && LB))) w3.heap.size ((bs.set q (x9 && LB)).map Value.bool).toArray 4) := by have h9 := hblk.out.set q (.bool (x9 && LB)); rw [set_boolB] at h9; exact h9
                      have HY2 : Hid (Below w3.heap.size w3 (wr.setCell ⟨w3.heap.size, q, none⟩ (.bool (x9 && LB)))) := hb.out.setCell (Nat.le_refl _) _
                      clear hblk hb
                      cases x9 <;> cases LB
                      all_goals
                        go_wp2
                        go_roundw
                        case rel => exact ⟨q + 1, _, by omega, by go_num, HS2, HB2, HY2⟩
                        case measure => simp [intOf]; omega
                · have hql : ¬ (q : Int) < (n : Int) := by omega
                  go_wp2
                  go_roundw
                  case rel => exact ⟨k + 1, bs, by omega, by go_num, hsu, hblk, hb⟩
                  case measure => simp [intOf]; omega
            · have hkl : ¬ (k : Int) < (n : Int) := by omega
              have HAN : Hid ((List.range n).any (fun q => el bs q) = true) := HSO.out bs hsu.out
              have HBL : Hid (bs.length = n) := hsu.out.1
              clear hsu
              go_wp2
              go_loopw [16, 17] (fun s16 i wr => ∃ k : Nat, k ≤ n ∧ s16 = .bool ((List.range k).any (fun q => el bs q)) ∧ i = .int .i64 k ∧ Hid (Blk wr w3.heap.size (bs.map Value.bool).toArray 4) ∧ Hid (Below w3.heap.size w3 wr)) (fun _ i _ => n - (intOf i).toNat)
              case atStart => exact ⟨0, Nat.zero_le _, rfl, rfl, hblk, hb⟩
              case round =>
                obtain ⟨k, hk, rfl, rfl, hblk, hb⟩ := hrel
                by_cases hkn : k < n
                · have hk0 : (0 : Int) ≤ (k : Int) := by omega
                  have hk1 : (k : Int) < (n : Int) := by omega
                  have y0 := bool_cell hblk.out (j := k) (by rw [HBL.out]; exact hkn)
                  have hsx : (List.range (k + 1)).any (fun q => el bs q) = ((List.range k).any (fun q => el bs q) || el bs k) := by rw [List.range_succ, List.any_append]; simp
                  generalize (List.range k).any (fun q => el bs q) = u at *
                  generalize el bs k = x at *
                  have HSX : Hid ((List.range (k + 1)).any (fun q => el bs q) = (u || x)) := hsx
                  clear hsx
                  cases u <;> cases x
                  all_goals
                    go_wp2
                    go_roundw
                    case rel => exact ⟨k + 1, by omega, by rw [HSX.out]; rfl, by go_num, hblk, hb⟩
                    case measure => simp [intOf]; omega
                · have hkl : ¬ (k : Int) < (n : Int) := by omega
                  rw [show k = n by omega, HAN.out]
                  go_wp2
                  go_ret
                  exact ⟨rfl, HB3.out.trans (hb.out.mono HB3.out.size)⟩
    · have HNC : Hid (¬ CycleL l) := hcy
      have hmk := run_nums l.length (by omega)
      clear hcy
      go_wp2_with (first
        | (go_at_call 9; (with_reducible refine (order_any _ (z, l) _ HMA.out (okF HF.out) 0 HF.out).mono ?_); rintro e w3 ⟨v3, ec3, rfl, ⟨out, hnu, han⟩, hb⟩; obtain ⟨hec, hor⟩ := ans_fine han HNC.out; subst hec; have HOR : Hid (OrderL l out) := hor; obtain ⟨xa, ca, hv3, hco⟩ := hnu.get; (replace hv3 : v3 = Value.slice xa l.length ca := hv3.trans (by rw [show out.length = l.length from hor.2])); subst hv3; have HCO : Hid (∀ j, j < out.length → ∃ b off, xa = some ⟨b, off, none⟩ ∧ b < w3.heap.size ∧ w3.cell? ⟨b, off + j, none⟩ = some (.int .i64 (el out j))) := hco; have x0 := low x0 hb; have x1 := low x1 hb; have hmw3 : w1.heap.size < w3.heap.size := World.block_lt_of_cell? _ _ x0; have HMA3 : Hid (Mach w3 (.agg #[.int .i64 z, .slice a l.length cap]) (z, l)) := HMA.out.later hb (Nat.le_refl _); have HB3 : Hid (Below w.heap.size w w3) := HBX.out.trans (hb.mono HBX.out.size); clear hnu han hor hb hco))
      have HC : Hid (∀ j, j < l.length → ∃ b off va, a = some ⟨b, off, none⟩ ∧ b < w3.heap.size ∧ w3.cell? ⟨b, off + j * 2, none⟩ = some (.int .i64 (el l j).1) ∧ w3.cell? ⟨b, off + j * 2 + 1, none⟩ = some va ∧ Arcs w3 va (el l j).2) := by
        obtain ⟨vv, hv, hS⟩ := HMA3.out
        obtain ⟨aa9, cc, hv2, hc⟩ := hS.get
        rw [hv2] at hv
        simp only [Value.agg.injEq, Array.mk.injEq, List.cons.injEq, Value.slice.injEq, true_and, and_true] at hv
        intro j hj
        obtain ⟨b, off, va, h1, h2⟩ := hc j hj
        exact ⟨b, off, va, hv.1.trans h1, h2⟩
      have HOL : Hid (out.length = l.length) := HOR.out.2
      have HNX : Hid (∀ (i : Nat) (ps : List Int) (q : Nat), i < l.length → AtI l.length out i ps → el out i = (q : Int) → q < l.length → el ps q = 0 ∧ AtI l.length out (i + 1) (ps.set q ((i : Int) + 1))) := fun i ps q hi h hq hqn => AtI.next HOR.out hi h hq hqn
      have HAL : Hid (∀ (ps : List Int) (q : Nat), AtI l.length out l.length ps → q < l.length → ∃ j, j < l.length ∧ el ps q = (j : Int) + 1) := fun ps q h hq => by obtain ⟨j, h1, _, h2⟩ := h.all HOR.out hq; exact ⟨j, h1, h2⟩
      have HLA : Hid (∀ (ps : List Int) (q t : Nat) (a : Ar), AtI l.length out l.length ps → q < l.length → a ∈ (el l q).2 → a.2.2.2 = ((t : Nat) : Int) → t < l.length → el ps q < el ps t) := fun ps q t a h hq ha ht htn => h.later HOR.out hq ha ht htn
      have HMEM : Hid (∀ i, i < l.length → ∃ q : Nat, el out i = (q : Int) ∧ q < l.length) := fun i hi => HOR.out.1.mem (el_mem (by rw [HOL.out]; exact hi))
      generalize hn : l.length = n at *
      have HN : Hid (l.length = n) := hn
      clear hn
      go_loopw [19] (fun i wr => ∃ (k : Nat) (ps : List Int), k ≤ n ∧ i = .int .i64 k ∧ Hid (AtI n out k ps) ∧ Hid (Blk wr w3.heap.size (ps.map (Value.int .i64)).toArray 3) ∧ Hid (Below w3.heap.size w3 wr)) (fun i _ => n - (intOf i).toNat)
      case atStart => exact ⟨0, List.replicate n (0 : Int), Nat.zero_le _, rfl, AtI.start n out, by (show Blk _ _ _ _); rw [show (List.map (Value.int .i64) (List.replicate n 0)).toArray = Array.replicate n (Value.int .i64 0) from by simp]; exact Blk.made _ _ _, (Below.refl _ _).alloc (Nat.le_refl _) _⟩
      case round =>
        obtain ⟨k, ps, hk, rfl, hat, hblk, hb⟩ := hrel
        by_cases hkn : k < n
        · have hk0 : (0 : Int) ≤ (k : Int) := by omega
          have hk1 : (k : Int) < (n : Int) := by omega
          obtain ⟨q, hq, hqn⟩ := HMEM.out k hkn
          obtain ⟨hz9, hat2⟩ := HNX.out k ps q hkn hat.out hq hqn
          obtain ⟨b, off, rfl, hbl, g0⟩ := HCO.out k (by rw [HOL.out]; exact hkn)
          have g0 := (hb.out.cell (p := ⟨b, off + k, none⟩) hbl).trans g0
          rw [hq] at g0
          have y0 := num_cell hblk.out (j := q) (by rw [hat.out.1]; exact hqn)
          rw [hz9] at y0
          have y1 := hblk.out.fz q
          have hq0 : (0 : Int) ≤ (q : Int) := by omega
          have hq1 : (q : Int) < (n : Int) := by omega
          have HAT : Hid (AtI n out (k + 1) (ps.set q ((k : Int) + 1))) := hat2
          have HB2 : Hid (Blk (wr.setCell ⟨w3.heap.size, q, none⟩ (.int .i64 ((k : Int) + 1))) w3.heap.size ((ps.set q ((k : Int) + 1)).map (Value.int .i64)).toArray 3) := by have h9 := hblk.out.set q (.int .i64 ((k : Int) + 1)); rw [set_num] at h9; exact h9
          have HY2 : Hid (Below w3.heap.size w3 (wr.setCell ⟨w3.heap.size, q, none⟩ (.int .i64 ((k : Int) + 1)))) := hb.out.setCell (Nat.le_refl _) _
          clear hat hat2 hz9 hq
          go_wp2
          go_roundw
          case rel => exact ⟨k + 1, _, by omega, by go_num, HAT, HB2, HY2⟩
          case measure => simp [intOf]; omega
        · have hkl : ¬ (k : Int) < (n : Int) := by omega
          have HAT : Hid (AtI n out n ps) := by have h9 := hat.out; rw [show k = n by omega] at h9; exact h9
          have HPL : Hid (ps.length = n) := HAT.out.1
          clear hat
          go_wp2
          go_loopw [20] (fun i wr => ∃ q : Nat, q ≤ n ∧ i = .int .i64 q ∧ Hid (Blk wr w3.heap.size (ps.map (Value.int .i64)).toArray 3) ∧ Hid (Below w3.heap.size w3 wr)) (fun i _ => n - (intOf i).toNat)
          case atStart => exact ⟨0, Nat.zero_le _, rfl, hblk, hb⟩
          case round =>
            obtain ⟨q, hq, rfl, hblk, hb⟩ := hrel
            by_cases hqn : q < n
            · obtain ⟨j0, hj0n, hpq⟩ := HAL.out ps q HAT.out hqn
              have y0 := num_cell hblk.out (j := q) (by rw [HPL.out]; exact hqn)
              have hq0 : (0 : Int) ≤ (q : Int) := by omega
              have hq1 : (q : Int) < (n : Int) := by omega
              obtain ⟨b, off, va, rfl, hbl, g0, g1, gA⟩ := HC.out q hqn
              obtain ⟨a2, cap2, hva, hga⟩ := gA.get
              subst hva
              have HGA : Hid (∀ j, j < (el l q).2.length → ∃ b off, a2 = some ⟨b, off, none⟩ ∧ b < w3.heap.size ∧ w3.cell? ⟨b, off + j * 4, none⟩ = some (.int .i64 (el (el l q).2 j).1) ∧ w3.cell? ⟨b, off + j * 4 + 1, none⟩ = some (.int .i64 (el (el l q).2 j).2.1) ∧ w3.cell? ⟨b, off + j * 4 + 2, none⟩ = some (.int .i64 (el (el l q).2 j).2.2.1) ∧ w3.cell? ⟨b, off + j * 4 + 3, none⟩ = some (.int .i64 (el (el l q).2 j).2.2.2)) := hga
              have HLQ : Hid (∀ (t : Nat) (a : Ar), a ∈ (el l q).2 → a.2.2.2 = ((t : Nat) : Int) → t < n → el ps q < el ps t) := fun t a ha ht htn => HLA.out ps q t a HAT.out hqn ha ht htn
              have HTQ : Hid (∀ a ∈ (el l q).2, ∃ t : Nat, a.2.2.2 = (t : Int) ∧ t < n) := HTO.out q hqn
              have hL4 := HAR.out q hqn
              clear gA hga g0
              generalize (el l q).2 = ar at *
              generalize hL : ar.length = L at *
              have HL : Hid (ar.length = L) := hL
              clear hL
              have hp1 : ¬ el ps q < 1 := by omega
              have hp2 : ¬ (n : Int) < el ps q := by omega
              clear hpq
              go_wp2
              go_loopw [21] (fun i wr => ∃ j : Nat, j ≤ L ∧ i = .int .i64 j ∧ Hid (Blk wr w3.heap.size (ps.map (Value.int .i64)).toArray 3) ∧ Hid (Below w3.heap.size w3 wr)) (fun i _ => L - (intOf i).toNat)
              case atStart => exact ⟨0, Nat.zero_le _, rfl, hblk, hb⟩
              case round =>
                obtain ⟨j, hj, rfl, hblk, hb⟩ := hrel
                have x1 := (hb.out.cell (p := ⟨w1.heap.size, 1, none⟩) hmw3).trans x1
                have g1 := (hb.out.cell (p := ⟨b, off + q * 2 + 1, none⟩) hbl).trans g1
                by_cases hjL : j < L
                · obtain ⟨b3, off3, rfl, hb3l, _, _, _, e3⟩ := HGA.out j hjL
                  have e3 := (hb.out.cell (p := ⟨b3, off3 + j * 4 + 3, none⟩) hb3l).trans e3
                  have hmem := el_mem (l := ar) (j := j) (by rw [HL.out]; exact hjL)
                  obtain ⟨t, ht, htn⟩ := HTQ.out _ hmem
                  have hlt := HLQ.out t _ hmem ht htn
                  rw [ht] at e3
                  have y0 := num_cell hblk.out (j := q) (by rw [HPL.out]; exact hqn)
                  have y1 := num_cell hblk.out (j := t) (by rw [HPL.out]; exact htn)
                  have hj0 : (0 : Int) ≤ (j : Int) := by omega
                  have hj1 : (j : Int) < (L : Int) := by omega
                  have ht0 : (0 : Int) ≤ (t : Int) := by omega
                  have ht1 : (t : Int) < (n : Int) := by omega
                  have hle : ¬ el ps t ≤ el ps q := by omega
                  clear ht hmem
                  generalize el ps t = pt at *
                  generalize el ps q = pq at *
                  go_wp2
                  go_quiet (fail)
                  go_wp2
                  go_roundw
                  case rel => exact ⟨j + 1, by omega, by go_num, hblk.out.drewN _, below_drewN hb.out _⟩
                  case measure => simp [intOf]; omega
                · have hnl9 : ¬ (j : Int) < (L : Int) := by omega
                  go_wp2
                  go_roundw
                  case rel => exact ⟨q + 1, by omega, by go_num, hblk, hb⟩
                  case measure => simp [intOf]; omega
            · have hql : ¬ (q : Int) < (n : Int) := by omega
              go_wp2
              go_ret
              exact ⟨rfl, HB3.out.trans (hb.out.mono HB3.out.size)⟩

set_option maxRecDepth 100000 in
theorem lifted (os : Os) (started : os.Started) (H : Type) (enc : TypeId × Value → H) :
    ReturnsInHanded {} Try.checked os 6 .any (Rows.orderForwardSpec.pre6 enc Try.prog Try.f6 Rows.orderForwardRow.domain false) (Rows.orderForwardSpec.post enc Try.prog Try.f6 false true false false) := by
  refine returnsInHanded_of_change_sized (C := Try.checked) own started (by kernel_rfl) Try.func6
    (ChangeSpec.witness6 (enc := enc) (C := Try.checked) false ⟨#[], #[.agg #[.int .i64 0, .slice none 0 0], .bool false], []⟩ 8 (by kernel_rfl) (by kernel_rfl) (by kernel_rfl) (by kernel_rfl)) ?_
  intro W base args ds gs before hval0 hW hcnd hsz0 _
  have hsz : (DataW.weightsEach Try.prog (Try.f6.params.toList ++ Rows.orderForwardSpec.plain.varTypes Try.prog) (ds ++ gs)).all (· ≤ reachBytes) = true := hsz0
  have hval : ∀ (j : Nat) t v, Try.f6.params[j]? = some t → args[j]? = some v → Value.okWide Try.prog W .any base t v := hval0
  clear hval0 hsz0
  have hW' := hW
  obtain ⟨p, q, hA0, hV, rfl, hfz, hnd⟩ := hW
  have hA : DataW.TrodAll enc Try.prog W 0 (fun _ => true) true Try.f6.params.toList args.toList ds p := hA0
  rw [Try.params6] at hA hval hsz
  obtain ⟨v0, vs0, d0, ds0, p0, q0, hargs, rfl, rfl, h0, r0⟩ := trodAll_cons hA
  obtain ⟨v1, vs1, d1, ds1, p1, q1, rfl, rfl, rfl, h1, r1⟩ := trodAll_cons r0
  obtain ⟨rfl, rfl, rfl⟩ := trodAll_nil r1
  obtain rfl : args = #[v0, v1] := by cases args; simp_all
  obtain ⟨rfl, rfl⟩ := trodVars_none hV
  have k0 := h0
  have lt0 : ∀ x ∈ p0, x.block < W.heap.size := by obtain ⟨m, hm⟩ := k0; exact DataW.trod_lt m _ _ _ hm
  obtain ⟨z0, w0⟩ : ∃ m : Rw, RawV W v0 m ∧ okR m ∧ wfR m := by
    obtain ⟨c0, c1, y0, y1, n, rfl, hd, hp, t0, t1⟩ := Go.Joins.open_agg2 Try.underlying37 (by kernel_rfl) (by kernel_rfl) (hval 0 37 v0 rfl rfl) h0
    subst hd
    exact open_raw t0 t1 ((Fits.arg hsz (j := 0) rfl rfl).field Try.underlying37 (f := 1) rfl rfl)
  obtain ⟨a1, rfl, rfl, rfl⟩ := open_bool Try.underlying4 (hval 1 4 v1 rfl rfl) h1
  refine (walk v0 z0 a1 W w0).mono fun e W' ⟨he, bel⟩ => ?_
  subst he
  exact ⟨_, rfl, _, _, _, [], _, [], hW', trodAll_mk1 (shut_bool Try.underlying4 _), (trodAll_cons_mk (Below.trod laidOut (by kernel_rfl) (of_decide_eq_true (by kernel_rfl)) k0 bel lt0) (trodAll_cons_mk (shut_bool Try.underlying4 a1) trodAll_mk0)), rfl, bel.frame _, fun h => by cases h⟩
end Go.Proofs.Ytbamaolknpffgaa.orderForward
namespace Go.Proofs.Ytbamaolknpffgaa
theorem orderForward_holds : Rows.OrderForwardSaid :=
  OpenClaim.holds_of_wide 6 Try.f6 rfl rfl rfl rfl rfl rfl rfl ⟨rfl, rfl, rfl, rfl, rfl⟩ rfl rfl rfl rfl rfl (by kernel_rfl) Try.func6 (by kernel_rfl)
    (of_decide_eq_true (by kernel_rfl)) (by unfold Func.isWrapper; first | (rw [if_pos (by decide +kernel)]; kernel_rfl) | (rw [if_neg (by decide +kernel)]; exact ⟨rfl, rfl⟩))
    (fun os started H enc _ => orderForward.lifted os started H enc)
#print axioms orderForward_holds
end Go.Proofs.Ytbamaolknpffgaa
