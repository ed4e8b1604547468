/- The statement SortedKeeps: whatever numbers a machine is made of, the arcs of each state stand in order behind Sorted, all of them are there as often as before, and sorted again nothing changes, for every input and without any condition. -/
import Derived.Test.YtbiecfnhjfdkcaaMd
import Derived.Test.YtbiecfnhjfdkcaaAu
import Derived.Test.YtbiecfnhjfdkcaaMcX
import Derived.Test.YtbiecfnhjfdkcaaKc
import Derived.Test.YtbiecfnhjfdkcaaKd
import Derived.Lib.SmallJoins
import Derived.ChangeOld
import Derived.Below
namespace Go.Proofs.Ytbiecfnhjfdkcaa.sortedKeeps
open Go.ChangeShapes Go.WideShapes Go.ChangeAt Go.RowKit
open Go.Proofs.Ytbiecfnhjfdkcaa.Pl Go.Proofs.Ytbiecfnhjfdkcaa.Wt
set_option linter.unusedVariables false
set_option linter.unusedSimpArgs false

theorem own : ownKnob Try.prog.godebug = none := by kernel_rfl
theorem laidOut : laidOutB Try.prog = true := by kernel_rfl
theorem len_arcN {l : List St} {j : Nat} (h : j < l.length) : (el l j).2.length ≤ arcN l := by
  induction l generalizing j with
  | nil => simp at h
  | cons s l ih =>
    cases j with
    | zero => rw [el_zero]; simp [arcN]
    | succ j => rw [el_succ]; have := ih (j := j) (by simpa using h); simp only [arcN]; omega
theorem ok_right {m : Mc} (h : faultM m = 0) : okM m := by
  have h1 := right_size (z := m.1) (l := m.2) h
  refine ⟨by omega, fun j hj => ?_⟩
  have := len_arcN hj
  omega
theorem made6 (v : Value) (r : Rw) (full : Bool) (w : World) (h : RawV w v r) (hok : okR r) (hwf : wfR r) :
    Calls Try.prog 9 #[v, .int .i64 6, .bool full] w fun e w' => ∃ v', e = .returned v' ∧ Mach w' v' (madeM r 6 full) ∧ Below w.heap.size w w' := made_any v r 6 full w h hok hwf (by omega) (by omega)
/-- What is told of the sorted machine. -/
theorem bitsS (z : Int) (l : List St) (h : faultM (z, l) = 0) (hs : l.all (fun s => sortB s.2) = true) : ∃ x1 x2 x3 x5 : Bool, ∀ (a : Option Addr) (cap : Nat) (w : World), Mach w (.agg #[.int .i64 z, .slice a l.length cap]) (z, l) →
    Calls Try.prog 11 #[.agg #[.int .i64 z, .slice a l.length cap]] w fun e w' => e = .returned (.tuple #[.agg #[.bool x1, .bool x2, .bool x3, .bool true, .bool x5], .int .i64 0]) ∧ Below w.heap.size w w' :=
  ⟨_, _, _, _, fun a cap w hM => bits_ok z a cap l w hM (ok_right h) h _ _ _ _ _ _ rfl rfl rfl hs rfl rfl⟩
def HeldS (B4 b off cap b2 off2 n k j : Nat) (va2 : Value) (p : Ar) (w : World) : Prop :=
  w.cell? ⟨B4, 1, none⟩ = some (.slice (some ⟨b2, off2, none⟩) n cap) ∧ w.cell? ⟨b2, off2 + k * 2 + 1, none⟩ = some va2 ∧
  w.cell? ⟨b, off + j * 4, none⟩ = some (.int .i64 p.1) ∧ w.cell? ⟨b, off + j * 4 + 1, none⟩ = some (.int .i64 p.2.1) ∧ w.cell? ⟨b, off + j * 4 + 2, none⟩ = some (.int .i64 p.2.2.1) ∧ w.cell? ⟨b, off + j * 4 + 3, none⟩ = some (.int .i64 p.2.2.2)
theorem HeldS.below {B4 b off cap b2 off2 n k j : Nat} {va2 : Value} {p : Ar} {w w' : World} (h : HeldS B4 b off cap b2 off2 n k j va2 p w) (hb : Below w.heap.size w w') : HeldS B4 b off cap b2 off2 n k j va2 p w' := by
  obtain ⟨h1, h2, h3, h4, h5, h6⟩ := h
  exact ⟨low h1 hb, low h2 hb, low h3 hb, low h4 hb, low h5 hb, low h6 hb⟩
set_option maxRecDepth 100000 in
set_option maxHeartbeats 6400000 in
theorem walk (v : Value) (m : Rw) (w : World) (h : RawV w v m ∧ okR m ∧ wfR m) :
    Calls Try.prog 7 #[v] w fun e w' => e = .returned (.bool true) ∧ Below w.heap.size w w' := by
  obtain ⟨h, hok, hwf⟩ := h
  have HI : Hid (RawV w v m) := h
  have HOK : Hid (okR m) := hok
  have HWF : Hid (wfR m) := hwf
  have hf := madeM_right m 6 (by omega) (by omega) false
  generalize hM : madeM m 6 false = M at hf
  have HMM : Hid (madeM m 6 false = M) := hM
  clear hM
  obtain ⟨z, l⟩ := M
  have hfs : faultM (mapM (sortS false) (z, l)) = 0 := fault_map (fun l => by rw [sortS_length]; exact Nat.le_refl _) (fun l a ha => (sortS_perm false l).mem_iff.1 ha) hf
  have hss : mapM (sortS false) (mapM (sortS false) (z, l)) = mapM (sortS false) (z, l) := by
    simp only [mapM, List.map_map]
    congr 1
    apply List.map_congr_left
    intro s _
    simp [sort_sort]
  have hSl : (mapM (sortS false) (z, l)) = (z, l.map fun s => (s.1, sortS false s.2)) := rfl
  have HEL : Hid (∀ j, j < l.length → el (l.map fun s => (s.1, sortS false s.2)) j = ((el l j).1, sortS false (el l j).2)) := fun j hj => el_map hj _
  have hall : (l.map fun s => (s.1, sortS false s.2)).all (fun s => sortB s.2) = true := by
    rw [List.all_eq_true]
    intro s hs
    simp only [List.mem_map] at hs
    obtain ⟨t, _, rfl⟩ := hs
    exact sort_right _
  have hlen : (l.map fun s => (s.1, sortS false s.2)).length = l.length := by simp
  rw [hSl] at hfs hss
  have HF : Hid (faultM (z, l) = 0) := hf
  have HFS : Hid (faultM (z, l.map fun s => (s.1, sortS false s.2)) = 0) := hfs
  have HSM : Hid (resM 0 (mapM (sortS false) (z, l)) = (z, l.map fun s => (s.1, sortS false s.2))) := rfl
  have HSS : Hid (resM 0 (mapM (sortS false) (z, l.map fun s => (s.1, sortS false s.2))) = (z, l.map fun s => (s.1, sortS false s.2))) := hss
  obtain ⟨x1, x2, x3, x5, hbits⟩ := bitsS z _ hfs hall
  have HBI : Hid (∀ (a : Option Addr) (cap : Nat) (w : World), Mach w (.agg #[.int .i64 z, .slice a (l.map fun s => (s.1, sortS false s.2)).length cap]) (z, l.map fun s => (s.1, sortS false s.2)) → Calls Try.prog 11 #[.agg #[.int .i64 z, .slice a (l.map fun s => (s.1, sortS false s.2)).length cap]] w fun e w' => e = .returned (.tuple #[.agg #[.bool x1, .bool x2, .bool x3, .bool true, .bool x5], .int .i64 0]) ∧ Below w.heap.size w w') := hbits
  have h60 : l.length ≤ 60 := (right_size hf).1
  have HAR : Hid (∀ j, j < l.length → (el l j).2.length ≤ 400) := fun j hj => Nat.le_trans (len_arcN hj) (right_size hf).2
  clear hf hfs hss hSl hall hbits hok hwf
  generalize hS : (l.map fun s => (s.1, sortS false s.2)) = sl at *
  clear hS
  have HLS : Hid (sl.length = l.length) := hlen
  have HBN : Hid (∀ (a : Option Addr) (cap : Nat) (w : World), Mach w (.agg #[.int .i64 z, .slice a l.length cap]) (z, sl) → Calls Try.prog 11 #[.agg #[.int .i64 z, .slice a l.length cap]] w fun e w' => e = .returned (.tuple #[.agg #[.bool x1, .bool x2, .bool x3, .bool true, .bool x5], .int .i64 0]) ∧ Below w.heap.size w w') := by have h := HBI.out; rw [hlen] at h; exact h
  clear hlen HBI
  obtain ⟨vs, rfl, hN⟩ := h
  obtain ⟨ra, rcap, rfl, _⟩ := hN.get
  clear hN
  have HB0 : Hid (Below w.heap.size w (w.alloc (.cells #[.int .i64 m.1, .slice ra m.2.length rcap] 24))) := (Below.refl _ _).alloc (Nat.le_refl _) _
  have hnot : ∀ (x : Bool) (w : World), (Op.unary .not (.bool x)).run Try.prog w = .ok (.bool (!x)) w := fun _ _ => rfl
  go_enter Try.func7, Try.ntmps7
  go_wp2_with (first
    | (go_at_call 9; (with_reducible refine (made6 _ m false _ (HI.out.later HB0.out (Nat.le_refl _)) HOK.out HWF.out).mono ?_); rintro e w1 ⟨v1, rfl, hi, hb⟩; rw [HMM.out] at hi; have HI1 : Hid (Mach w1 v1 (z, l)) := hi; obtain ⟨vs1, rfl, hS1⟩ := hi; obtain ⟨a1, cap1, rfl⟩ := hS1.sl; simp only at HI1; clear hS1; obtain ⟨s1, b1, hb1⟩ := boxed hb (by simp); have HB1 : Hid (Below w.heap.size w w1) := hb1; clear b1 hb1 hb)
    | (go_at_call 14; (with_reducible refine (sorted_any _ (z, l) _ (HI1.out.later (B := w1.heap.size) (by go_grown) (Nat.le_refl _)) (ok_right HF.out) 0 HF.out).mono ?_); rintro e w2 ⟨v2, rfl, hi, hb⟩; rw [HSM.out] at hi; have hi := hi.mach; have HI2 : Hid (Mach w2 v2 (z, sl)) := hi; obtain ⟨vs2, rfl, hS2⟩ := hi; obtain ⟨a2, cap2, hv2⟩ := hS2.sl; (replace hv2 : vs2 = Value.slice a2 l.length cap2 := hv2.trans (by rw [show sl.length = l.length from HLS.out])); subst hv2; simp only at HI2; clear hS2; obtain ⟨s2, b2, hb2⟩ := boxed hb (by simp); have d0 := b2.cell 0 (v := .int .i64 z) rfl; have d1 := b2.cell 1 (v := .slice a1 l.length cap1) rfl; have HB2 : Hid (Below w.heap.size w w2) := HB1.out.trans (hb2.mono HB1.out.size); have HM2 : Hid (Mach w2 (.agg #[.int .i64 z, .slice a1 l.length cap1]) (z, l)) := HI1.out.later hb2 (Nat.le_refl _); clear b2 hb2 hb)
    | (go_at_call 11; (with_reducible refine (HBN.out _ _ _ (HI2.out.later (B := w2.heap.size) (by go_grown) (Nat.le_refl _))).mono ?_); rintro e w3 ⟨rfl, hb⟩; obtain ⟨s3, b3, hb3⟩ := boxed hb (by simp); have k0 := b3.cell 0 (v := .int .i64 z) rfl; have k1 := b3.cell 1 (v := .slice a2 l.length cap2) rfl; have d0 := low d0 hb3; have d1 := low d1 hb3; have HB3 : Hid (Below w.heap.size w w3) := HB2.out.trans (hb3.mono HB2.out.size); have HM3 : Hid (Mach w3 (.agg #[.int .i64 z, .slice a1 l.length cap1]) (z, l)) := HM2.out.later hb3 (Nat.le_refl _); have HS3 : Hid (Mach w3 (.agg #[.int .i64 z, .slice a2 l.length cap2]) (z, sl)) := HI2.out.later hb3 (Nat.le_refl _); have y1 : w1.heap.size < w3.heap.size := World.block_lt_of_cell? _ _ d0; have y2 : w2.heap.size < w3.heap.size := World.block_lt_of_cell? _ _ k0; clear b3 hb3 hb)
    | (go_at_call 14; (with_reducible refine (sorted_any _ (z, sl) _ (HS3.out.later (B := w3.heap.size) (by go_grown) (Nat.le_refl _)) (ok_right HFS.out) 0 HFS.out).mono ?_); rintro e w4 ⟨v4, rfl, hi, hb⟩; rw [HSS.out] at hi; have hi := hi.mach; have HI4 : Hid (Mach w4 v4 (z, sl)) := hi; obtain ⟨vs4, rfl, hS4⟩ := hi; obtain ⟨a4, cap4, hv4⟩ := hS4.sl; (replace hv4 : vs4 = Value.slice a4 l.length cap4 := hv4.trans (by rw [show sl.length = l.length from HLS.out])); subst hv4; simp only at HI4; clear hS4; obtain ⟨s4, b4, hb4⟩ := boxed hb (by simp); have p3 := b4.cell 3 (v := .bool true) rfl; have d0 := low d0 hb4; have d1 := low d1 hb4; have k0 := low k0 hb4; have k1 := low k1 hb4; have HB4 : Hid (Below w.heap.size w w4) := HB3.out.trans (hb4.mono HB3.out.size); have HM4 : Hid (Mach w4 (.agg #[.int .i64 z, .slice a1 l.length cap1]) (z, l)) := HM3.out.later hb4 (Nat.le_refl _); have HS4 : Hid (Mach w4 (.agg #[.int .i64 z, .slice a2 l.length cap2]) (z, sl)) := HS3.out.later hb4 (Nat.le_refl _); have y3 : w1.heap.size < w4.heap.size := World.block_lt_of_cell? _ _ d0; have y4 : w2.heap.size < w4.heap.size := World.block_lt_of_cell? _ _ k0; have y5 : w3.heap.size < w4.heap.size := World.block_lt_of_cell? _ _ p3; clear b4 hb4 hb)
    | (go_at_call 19; (with_reducible refine (keepAlike_any _ _ (z, sl) _ (HS4.out.later (B := w4.heap.size) (by go_grown) (Nat.le_refl _)) (HI4.out.later (B := w4.heap.size) (by go_grown) (Nat.le_refl _)) (ok_right HFS.out)).mono ?_); rintro e w5 ⟨rfl, hb⟩; obtain ⟨s5, b5, hb5⟩ := boxed hb (by simp); have d0 := low d0 hb5; have d1 := low d1 hb5; have k0 := low k0 hb5; have k1 := low k1 hb5; have HB5 : Hid (Below w.heap.size w w5) := HB4.out.trans (hb5.mono HB4.out.size); have HM5 : Hid (Mach w5 (.agg #[.int .i64 z, .slice a1 l.length cap1]) (z, l)) := HM4.out.later hb5 (Nat.le_refl _); have HS5 : Hid (Mach w5 (.agg #[.int .i64 z, .slice a2 l.length cap2]) (z, sl)) := HS4.out.later hb5 (Nat.le_refl _); clear b5 hb5 hb))
  have HCM : Hid (∀ j, j < l.length → ∃ b off va, a1 = some ⟨b, off, none⟩ ∧ b < w5.heap.size ∧ w5.cell? ⟨b, off + j * 2, none⟩ = some (.int .i64 (el l j).1) ∧ w5.cell? ⟨b, off + j * 2 + 1, none⟩ = some va ∧ Arcs w5 va (el l j).2) := by
    obtain ⟨vv, hv, hS⟩ := HM5.out
    obtain ⟨aa, cc, hv2, hc⟩ := hS.get
    rw [hv2] at hv
    simp only [Value.agg.injEq, Array.mk.injEq, List.cons.injEq, Value.slice.injEq, true_and, and_true] at hv
    intro j hj
    obtain ⟨b, off, va, h1, h2⟩ := hc j hj
    exact ⟨b, off, va, hv.1.trans h1, h2⟩
  have HCS : Hid (∀ j, j < l.length → ∃ b off va, a2 = some ⟨b, off, none⟩ ∧ b < w5.heap.size ∧ w5.cell? ⟨b, off + j * 2, none⟩ = some (.int .i64 (el l j).1) ∧ w5.cell? ⟨b, off + j * 2 + 1, none⟩ = some va ∧ Arcs w5 va (sortS false (el l j).2)) := by
    obtain ⟨vv, hv, hS⟩ := HS5.out
    obtain ⟨aa, cc, hv2, hc⟩ := hS.get
    rw [hv2] at hv
    simp only [Value.agg.injEq, Array.mk.injEq, List.cons.injEq, Value.slice.injEq, true_and, and_true] at hv
    intro j hj
    obtain ⟨b, off, va, h1, h2⟩ := hc j (by show j < sl.length; rw [HLS.out]; exact hj)
    simp only [HEL.out j hj] at h2
    exact ⟨b, off, va, hv.1.trans h1, h2⟩
  have y6 : w1.heap.size < w5.heap.size := World.block_lt_of_cell? _ _ d0
  have y7 : w2.heap.size < w5.heap.size := World.block_lt_of_cell? _ _ k0
  clear HI1 HI2 HI4 HM2 HM3 HM4 HM5 HS3 HS4 HS5 HB1 HB2 HB3 HB4
  go_loopw [10] (fun i wr => ∃ k : Nat, k ≤ l.length ∧ i = .int .i64 k ∧ Hid (Below w5.heap.size w5 wr)) (fun i _ => l.length - (intOf i).toNat)
  case atStart => exact ⟨0, Nat.zero_le _, rfl, Below.refl _ _⟩
  case round =>
    obtain ⟨k, hk, rfl, hb⟩ := hrel
    have q1 := (hb.out.cell (p := ⟨w1.heap.size, 1, none⟩) y6).trans d1
    have q2 := (hb.out.cell (p := ⟨w2.heap.size, 1, none⟩) y7).trans k1
    by_cases hlt : k < l.length
    · obtain ⟨b, off, va, rfl, hbl, g0, g1, gA⟩ := HCM.out k hlt
      obtain ⟨b2, off2, va2, rfl, hbl2, r0, r1, rA⟩ := HCS.out k hlt
      have g0 := (hb.out.cell (p := ⟨b, off + k * 2, none⟩) hbl).trans g0
      have g1 := (hb.out.cell (p := ⟨b, off + k * 2 + 1, none⟩) hbl).trans g1
      have r0' := (hb.out.cell (p := ⟨b2, off2 + k * 2, none⟩) hbl2).trans r0
      have r1' := (hb.out.cell (p := ⟨b2, off2 + k * 2 + 1, none⟩) hbl2).trans r1
      have hk0 : (0 : Int) ≤ (k : Int) := by omega
      have hk1 : (k : Int) < (l.length : Int) := by omega
      have HPM : Hid (∀ x, cntA (sortS false (el l k).2) x = cntA (el l k).2 x) := fun x => cntA_perm (sortS_perm false _) x
      have HAK := HAR.out k hlt
      have hsl := sortS_length false (el l k).2
      generalize (el l k).1 = f at *
      generalize (el l k).2 = ar at *
      generalize sortS false ar = sar at *
      have GA : Hid (Arcs w5 va ar) := gA
      have RA : Hid (Arcs w5 va2 sar) := rA
      obtain ⟨va0, vc0, rfl, hgc⟩ := gA.get
      obtain ⟨vb0, vd0, hvb⟩ := rA.sl
      rw [hsl] at hvb
      subst hvb
      have HGC : Hid (∀ j, j < ar.length → ∃ b off, va0 = some ⟨b, off, none⟩ ∧ b < w5.heap.size ∧ w5.cell? ⟨b, off + j * 4, none⟩ = some (.int .i64 (el ar j).1) ∧ w5.cell? ⟨b, off + j * 4 + 1, none⟩ = some (.int .i64 (el ar j).2.1) ∧ w5.cell? ⟨b, off + j * 4 + 2, none⟩ = some (.int .i64 (el ar j).2.2.1) ∧ w5.cell? ⟨b, off + j * 4 + 3, none⟩ = some (.int .i64 (el ar j).2.2.2)) := hgc
      have HSL : Hid (sar.length = ar.length) := hsl
      clear hgc rA gA hsl
      generalize hL : ar.length = L at *
      have HL : Hid (ar.length = L) := hL
      clear hL
      go_wp2
      go_quiet (fail)
      go_wp2
      go_loopw [12] (fun i wr => ∃ j : Nat, j ≤ L ∧ i = .int .i64 j ∧ Hid (Below w5.heap.size w5 wr)) (fun i _ => L - (intOf i).toNat)
      case atStart => exact ⟨0, Nat.zero_le _, rfl, below_drewN hb.out _⟩
      case round =>
        obtain ⟨j, hj, rfl, hbi⟩ := hrel
        by_cases hjl : j < L
        · obtain ⟨b3, off3, rfl, hb3l, e0, e1, e2, e3⟩ := HGC.out j hjl
          have HS : HeldS w2.heap.size b3 off3 cap2 b2 off2 l.length k j (.slice vb0 L vd0) (el ar j) wr.drew := ⟨(hbi.out.cell (p := ⟨w2.heap.size, 1, none⟩) y7).trans k1, (hbi.out.cell (p := ⟨b2, off2 + k * 2 + 1, none⟩) hbl2).trans r1, (hbi.out.cell (p := ⟨b3, off3 + j * 4, none⟩) hb3l).trans e0, (hbi.out.cell (p := ⟨b3, off3 + j * 4 + 1, none⟩) hb3l).trans e1, (hbi.out.cell (p := ⟨b3, off3 + j * 4 + 2, none⟩) hb3l).trans e2, (hbi.out.cell (p := ⟨b3, off3 + j * 4 + 3, none⟩) hb3l).trans e3⟩
          have hj0 : (0 : Int) ≤ (j : Int) := by omega
          have hj1 : (j : Int) < (L : Int) := by omega
          have GA2 : Hid (Arcs wr.drew (.slice (some ⟨b3, off3, none⟩) L vc0) ar) := GA.out.later hbi.out.drew (Nat.le_refl _)
          have HCN := HPM.out (el ar j)
          have HNB : cntA ar (el ar j) ≤ 400 := Nat.le_trans (cntA_le _ _) (by rw [HL.out]; exact HAK)
          generalize hcn : cntA ar (el ar j) = c at *
          have HC1 : Hid (cntA ar (el ar j) = c) := hcn
          have HC2 : Hid (cntA sar (el ar j) = c) := HCN
          clear hcn HCN e0 e1 e2 e3
          generalize el ar j = p at *
          go_wp2
          refine region_anyL (HeldS w2.heap.size b3 off3 cap2 b2 off2 l.length k j (.slice vb0 L vd0) p) 1000 (by kernel_rfl) ?_
          refine anyL_take (i := 0) (v := ?v0_1) at0 (by kernel_rfl) (by kernel_rfl) (by kernel_rfl) (by kernel_rfl) (fun _ _ _ h => h) rfl ?y0_1 HS ?r0_1
          case y0_1 => intro wx hx; obtain ⟨h1, h2, h3, h4, h5, h6⟩ := hx; go_simp; try (with_reducible rfl)
          simp only [Act.put, List.setIfInBounds_toArray, List.set_cons_zero, List.set_cons_succ]
          refine anyL_take (i := 1) (v := ?v1_2) (atS at0) (by kernel_rfl) (by kernel_rfl) (by kernel_rfl) (by kernel_rfl) (fun _ _ _ h => h) rfl ?y1_2 HS ?r1_2
          case y1_2 => intro wx hx; obtain ⟨h1, h2, h3, h4, h5, h6⟩ := hx; go_simp; try (with_reducible rfl)
          simp only [Act.put, List.setIfInBounds_toArray, List.set_cons_zero, List.set_cons_succ]
          refine anyL_take (i := 2) (v := ?v2_3) (atS (atS at0)) (by kernel_rfl) (by kernel_rfl) (by kernel_rfl) (by kernel_rfl) (fun _ _ _ h => h) rfl ?y2_3 HS ?r2_3
          case y2_3 => intro wx hx; obtain ⟨h1, h2, h3, h4, h5, h6⟩ := hx; go_simp; try (with_reducible rfl)
          simp only [Act.put, List.setIfInBounds_toArray, List.set_cons_zero, List.set_cons_succ]
          refine anyL_take (i := 3) (v := ?v3_4) (atS (atS (atS at0))) (by kernel_rfl) (by kernel_rfl) (by kernel_rfl) (by kernel_rfl) (fun _ _ _ h => h) rfl ?y3_4 HS ?r3_4
          case y3_4 => intro wx hx; obtain ⟨h1, h2, h3, h4, h5, h6⟩ := hx; go_simp; try (with_reducible rfl)
          simp only [Act.put, List.setIfInBounds_toArray, List.set_cons_zero, List.set_cons_succ]
          refine anyL_take (i := 4) (v := ?v4_5) (atS (atS (atS (atS at0)))) (by kernel_rfl) (by kernel_rfl) (by kernel_rfl) (by kernel_rfl) (fun _ _ _ h => h) rfl ?y4_5 HS ?r4_5
          case y4_5 => intro wx hx; obtain ⟨h1, h2, h3, h4, h5, h6⟩ := hx; go_simp; try (with_reducible rfl)
          simp only [Act.put, List.setIfInBounds_toArray, List.set_cons_zero, List.set_cons_succ]
          refine anyL_take (i := 6) (v := ?v6_6) (atS (atS (atS (atS (atS (atS at0)))))) (by kernel_rfl) (by kernel_rfl) (by kernel_rfl) (by kernel_rfl) (fun _ _ _ h => h) rfl ?y6_6 HS ?r6_6
          case y6_6 => intro wx hx; obtain ⟨h1, h2, h3, h4, h5, h6⟩ := hx; go_simp; try (with_reducible rfl)
          simp only [Act.put, List.setIfInBounds_toArray, List.set_cons_zero, List.set_cons_succ]
          refine anyL_take (i := 7) (v := ?v7_7) (atS (atS (atS (atS (atS (atS (atS at0))))))) (by kernel_rfl) (by kernel_rfl) (by kernel_rfl) (by kernel_rfl) (fun _ _ _ h => h) rfl ?y7_7 HS ?r7_7
          case y7_7 => intro wx hx; obtain ⟨h1, h2, h3, h4, h5, h6⟩ := hx; go_simp; try (with_reducible rfl)
          simp only [Act.put, List.setIfInBounds_toArray, List.set_cons_zero, List.set_cons_succ]
          refine anyL_take (i := 8) (v := ?v8_8) (atS (atS (atS (atS (atS (atS (atS (atS at0)))))))) (by kernel_rfl) (by kernel_rfl) (by kernel_rfl) (by kernel_rfl) (fun _ _ _ h => h) rfl ?y8_8 HS ?r8_8
          case y8_8 => intro wx hx; obtain ⟨h1, h2, h3, h4, h5, h6⟩ := hx; go_simp; try (with_reducible rfl)
          simp only [Act.put, List.setIfInBounds_toArray, List.set_cons_zero, List.set_cons_succ]
          refine anyL_take (i := 9) (v := ?v9_9) (atS (atS (atS (atS (atS (atS (atS (atS (atS at0))))))))) (by kernel_rfl) (by kernel_rfl) (by kernel_rfl) (by kernel_rfl) (fun _ _ _ h => h) rfl ?y9_9 HS ?r9_9
          case y9_9 => intro wx hx; obtain ⟨h1, h2, h3, h4, h5, h6⟩ := hx; go_simp; try (with_reducible rfl)
          simp only [Act.put, List.setIfInBounds_toArray, List.set_cons_zero, List.set_cons_succ]
          refine anyL_take (i := 10) (v := ?v10_10) (atS (atS (atS (atS (atS (atS (atS (atS (atS (atS at0)))))))))) (by kernel_rfl) (by kernel_rfl) (by kernel_rfl) (by kernel_rfl) (fun _ _ _ h => h) rfl ?y10_10 HS ?r10_10
          case y10_10 => intro wx hx; obtain ⟨h1, h2, h3, h4, h5, h6⟩ := hx; go_simp; try (with_reducible rfl)
          simp only [Act.put, List.setIfInBounds_toArray, List.set_cons_zero, List.set_cons_succ]
          refine anyL_take (i := 11) (v := ?v11_11) (atS (atS (atS (atS (atS (atS (atS (atS (atS (atS (atS at0))))))))))) (by kernel_rfl) (by kernel_rfl) (by kernel_rfl) (by kernel_rfl) (fun _ _ _ h => h) rfl ?y11_11 HS ?r11_11
          case y11_11 => intro wx hx; obtain ⟨h1, h2, h3, h4, h5, h6⟩ := hx; go_simp; try (with_reducible rfl)
          simp only [Act.put, List.setIfInBounds_toArray, List.set_cons_zero, List.set_cons_succ]
          refine anyL_take (i := 12) (v := ?v12_12) (atS (atS (atS (atS (atS (atS (atS (atS (atS (atS (atS (atS at0)))))))))))) (by kernel_rfl) (by kernel_rfl) (by kernel_rfl) (by kernel_rfl) (fun _ _ _ h => h) rfl ?y12_12 HS ?r12_12
          case y12_12 => intro wx hx; obtain ⟨h1, h2, h3, h4, h5, h6⟩ := hx; go_simp; try (with_reducible rfl)
          simp only [Act.put, List.setIfInBounds_toArray, List.set_cons_zero, List.set_cons_succ]
          refine anyL_take (i := 13) (v := ?v13_13) (atS (atS (atS (atS (atS (atS (atS (atS (atS (atS (atS (atS (atS at0))))))))))))) (by kernel_rfl) (by kernel_rfl) (by kernel_rfl) (by kernel_rfl) (fun _ _ _ h => h) rfl ?y13_13 HS ?r13_13
          case y13_13 => intro wx hx; obtain ⟨h1, h2, h3, h4, h5, h6⟩ := hx; go_simp; try (with_reducible rfl)
          simp only [Act.put, List.setIfInBounds_toArray, List.set_cons_zero, List.set_cons_succ]
          refine anyL_take (i := 14) (v := ?v14_14) (atS (atS (atS (atS (atS (atS (atS (atS (atS (atS (atS (atS (atS (atS at0)))))))))))))) (by kernel_rfl) (by kernel_rfl) (by kernel_rfl) (by kernel_rfl) (fun _ _ _ h => h) rfl ?y14_14 HS ?r14_14
          case y14_14 => intro wx hx; obtain ⟨h1, h2, h3, h4, h5, h6⟩ := hx; go_simp; try (with_reducible rfl)
          simp only [Act.put, List.setIfInBounds_toArray, List.set_cons_zero, List.set_cons_succ]
          refine anyL_take (i := 15) (v := ?v15_15) (atS (atS (atS (atS (atS (atS (atS (atS (atS (atS (atS (atS (atS (atS (atS at0))))))))))))))) (by kernel_rfl) (by kernel_rfl) (by kernel_rfl) (by kernel_rfl) (fun _ _ _ h => h) rfl ?y15_15 HS ?r15_15
          case y15_15 => intro wx hx; obtain ⟨h1, h2, h3, h4, h5, h6⟩ := hx; go_simp; try (with_reducible rfl)
          simp only [Act.put, List.setIfInBounds_toArray, List.set_cons_zero, List.set_cons_succ]
          refine anyL_one (i := 5) (atS (atS (atS (atS (atS at0))))) (by kernel_rfl) rfl (fun K hK => ?_)
          go_simp
          refine (keepCount_any _ ar p _ GA2.out (by rw [HL.out]; omega) c HC1.out).mono ?_
          rintro e w6 ⟨rfl, hb6⟩
          have HS6 : HeldS w2.heap.size b3 off3 cap2 b2 off2 l.length k j (.slice vb0 L vd0) p w6 := HS.below hb6
          have hB6 : Below w5.heap.size w5 w6 := hbi.out.trans ((⟨hb6.os, hb6.tape, hb6.output, hb6.size, hb6.block⟩ : Below wr.heap.size wr w6).mono hbi.out.size)
          refine hK _ _ (.inr HS6) ?_
          try simp only [Act.put, List.setIfInBounds_toArray, List.set_cons_zero, List.set_cons_succ]
          refine anyL_one (i := 16) (atS (atS (atS (atS (atS (atS (atS (atS (atS (atS (atS (atS (atS (atS (atS (atS at0)))))))))))))))) (by kernel_rfl) rfl (fun K hK => ?_)
          go_simp
          refine (keepCount_any _ sar p _ (RA.out.later hB6 (Nat.le_refl _)) (by rw [HSL.out]; omega) c HC2.out).mono ?_
          rintro e w7 ⟨rfl, hb7⟩
          have HS7 : HeldS w2.heap.size b3 off3 cap2 b2 off2 l.length k j (.slice vb0 L vd0) p w7 := HS6.below hb7
          have HB7 : Hid (Below w5.heap.size w5 w7) := hB6.trans (hb7.mono hB6.size)
          refine hK _ _ (.inr HS7) ?_
          try simp only [Act.put, List.setIfInBounds_toArray, List.set_cons_zero, List.set_cons_succ]
          refine anyL_take (i := 17) (v := ?v17_16) (atS (atS (atS (atS (atS (atS (atS (atS (atS (atS (atS (atS (atS (atS (atS (atS (atS at0))))))))))))))))) (by kernel_rfl) (by kernel_rfl) (by kernel_rfl) (by kernel_rfl) (fun _ _ _ h => h) rfl ?y17_16 HS7 ?r17_16
          case y17_16 => intro wx hx; obtain ⟨h1, h2, h3, h4, h5, h6⟩ := hx; go_simp; try (with_reducible rfl)
          simp only [Act.put, List.setIfInBounds_toArray, List.set_cons_zero, List.set_cons_succ]
          refine anyL_done (by kernel_rfl) (NoPanic.normal ?_)
          clear HS HS6 HS7 hb6 hb7 hB6
          go_wp2
          go_roundw
          case rel => exact ⟨j + 1, by omega, by go_num, HB7⟩
          case measure => simp [intOf]; omega
        · have hnl : ¬ (j : Int) < (L : Int) := by omega
          go_wp2
          go_roundw
          case rel => exact ⟨k + 1, by omega, by go_num, hbi⟩
          case measure => simp [intOf]; omega
    · have hnl : ¬ (k : Int) < (l.length : Int) := by omega
      go_wp2
      go_ret
      exact ⟨rfl, HB5.out.trans (hb.out.mono HB5.out.size)⟩

set_option maxRecDepth 100000 in
theorem lifted (os : Os) (started : os.Started) (H : Type) (enc : TypeId × Value → H) :
    ReturnsInHanded {} Try.checked os 7 .any (Rows.sortedKeepsSpec.pre6 enc Try.prog Try.f7 Rows.sortedKeepsRow.domain false) (Rows.sortedKeepsSpec.post enc Try.prog Try.f7 false true false false) := by
  refine returnsInHanded_of_change_sized (C := Try.checked) own started (by kernel_rfl) Try.func7
    (ChangeSpec.witness6 (enc := enc) (C := Try.checked) false ⟨#[], #[.agg #[.int .i64 0, .slice none 0 0]], []⟩ 8 (by kernel_rfl) (by kernel_rfl) (by kernel_rfl) (by kernel_rfl)) ?_
  intro W base args ds gs before hval0 hW hcnd hsz0 _
  have hsz : (DataW.weightsEach Try.prog (Try.f7.params.toList ++ Rows.sortedKeepsSpec.plain.varTypes Try.prog) (ds ++ gs)).all (· ≤ reachBytes) = true := hsz0
  have hval : ∀ (j : Nat) t v, Try.f7.params[j]? = some t → args[j]? = some v → Value.okWide Try.prog W .any base t v := hval0
  clear hval0 hsz0
  have hW' := hW
  obtain ⟨p, q, hA0, hV, rfl, hfz, hnd⟩ := hW
  have hA : DataW.TrodAll enc Try.prog W 0 (fun _ => true) true Try.f7.params.toList args.toList ds p := hA0
  rw [Try.params7] at hA hval hsz
  obtain ⟨v0, vs0, d0, ds0, p0, q0, hargs, rfl, rfl, h0, r0⟩ := trodAll_cons hA
  obtain ⟨rfl, rfl, rfl⟩ := trodAll_nil r0
  obtain rfl : args = #[v0] := by cases args; simp_all
  obtain ⟨rfl, rfl⟩ := trodVars_none hV
  have k0 := h0
  have lt0 : ∀ x ∈ p0, x.block < W.heap.size := by obtain ⟨m, hm⟩ := k0; exact DataW.trod_lt m _ _ _ hm
  obtain ⟨z0, w0⟩ : ∃ m : Rw, RawV W v0 m ∧ okR m ∧ wfR m := by
    obtain ⟨c0, c1, y0, y1, n, rfl, hd, hp, t0, t1⟩ := Go.Joins.open_agg2 Try.underlying24 (by kernel_rfl) (by kernel_rfl) (hval 0 24 v0 rfl rfl) h0
    subst hd
    exact open_raw t0 t1 ((Fits.arg hsz (j := 0) rfl rfl).field Try.underlying24 (f := 1) rfl rfl)
  refine (walk v0 z0 W w0).mono fun e W' ⟨he, bel⟩ => ?_
  subst he
  exact ⟨_, rfl, _, _, _, [], _, [], hW', trodAll_mk1 (shut_bool Try.underlying4 _), (trodAll_cons_mk (Below.trod laidOut (by kernel_rfl) (of_decide_eq_true (by kernel_rfl)) k0 bel lt0) trodAll_mk0), rfl, bel.frame _, fun h => by cases h⟩
end Go.Proofs.Ytbiecfnhjfdkcaa.sortedKeeps
namespace Go.Proofs.Ytbiecfnhjfdkcaa
theorem sortedKeeps_holds : Rows.SortedKeepsSaid :=
  OpenClaim.holds_of_wide 7 Try.f7 rfl rfl rfl rfl rfl rfl rfl ⟨rfl, rfl, rfl, rfl, rfl⟩ rfl rfl rfl rfl rfl (by kernel_rfl) Try.func7 (by kernel_rfl)
    (of_decide_eq_true (by kernel_rfl)) (by unfold Func.isWrapper; first | (rw [if_pos (by decide +kernel)]; kernel_rfl) | (rw [if_neg (by decide +kernel)]; exact ⟨rfl, rfl⟩))
    (fun os started H enc _ => sortedKeeps.lifted os started H enc)
#print axioms sortedKeeps_holds
end Go.Proofs.Ytbiecfnhjfdkcaa
