/- The statement TrimDrops: whatever numbers a machine is made of, the trimmed one has as many states as can be reached and can end, and as many arcs as lead from one of these to another, for every input and without any condition. -/
import Derived.Test.YtfkiiedbcjbkiaaMd
import Derived.Test.YtfkiiedbcjbkiaaSz
import Derived.Test.YtfkiiedbcjbkiaaPlainZd
import Derived.Test.YtfkiiedbcjbkiaaMcN
import Derived.Lib.SmallJoins
import Derived.ChangeOld
import Derived.Below
namespace Go.Proofs.Ytfkiiedbcjbkiaa.trimDrops
open Go.ChangeShapes Go.WideShapes Go.ChangeAt Go.RowKit
open Go.Proofs.Ytfkiiedbcjbkiaa.Pl Go.Proofs.Ytfkiiedbcjbkiaa.Wt
set_option linter.unusedVariables false
set_option linter.unusedSimpArgs false

theorem own : ownKnob Try.prog.godebug = none := by kernel_rfl
theorem laidOut : laidOutB Try.prog = true := by kernel_rfl
theorem made8 (v : Value) (r : Rw) (full : Bool) (w : World) (h : RawV w v r) (hok : okR r) (hwf : wfR r) :
    Calls Try.prog 17 #[v, .int .i64 8, .bool full] w fun e w' => ∃ v', e = .returned v' ∧ Mach w' v' (madeM r 8 full) ∧ Below w.heap.size w w' := made_any v r 8 full w h hok hwf (by omega) (by omega)
theorem made_start (r : Rw) (full : Bool) : 0 ≤ (madeM r 8 full).1 ∧ (madeM r 8 full).1 < ((madeM r 8 full).2.length : Int) := by
  unfold madeM
  simp only [statesM_length]
  exact pkR_bd _ _ (by unfold sizeM; omega)
theorem cntK_le (l : List St) (aa bs : List Bool) (n : Nat) (hn : n ≤ l.length) : cntK l aa bs n ≤ arcN (l.take n) := by
  induction n with
  | zero => simp [cntK]
  | succ n ih =>
    rw [cntK, arcN_take (by omega)]
    have := ih (by omega)
    have h2 := List.countP_le_length (p := fun a : Ar => el bs a.2.2.2.toNat) (l := (el l n).2)
    split <;> omega
theorem countP_take {p : Ar → Bool} {ar : List Ar} {j : Nat} (h : j < ar.length) : (ar.take (j + 1)).countP p = (ar.take j).countP p + (if p (el ar j) = true then 1 else 0) := by
  rw [take_el h, List.countP_append]
  simp [List.countP_cons]
theorem bools_cell {w : World} {v : Value} {bs : List Bool} {n : Nat} (h : Bools w v bs) (hl : bs.length = n) : ∃ a cap, v = .slice a n cap ∧ ∀ j, j < n → ∃ b off, a = some ⟨b, off, none⟩ ∧ b < w.heap.size ∧ w.cell? ⟨b, off + j, none⟩ = some (.bool (el bs j)) := by
  obtain ⟨a, cap, hv, hc⟩ := h.get
  rw [hl] at hv hc
  exact ⟨a, cap, hv, hc⟩
set_option maxRecDepth 100000 in
set_option maxHeartbeats 6400000 in
theorem walk (v : Value) (m : Rw) (w : World) (h : RawV w v m ∧ okR m ∧ wfR m) :
    Calls Try.prog 7 #[v] w fun e w' => e = .returned (.bool true) ∧ Below w.heap.size w w' := by
  obtain ⟨h, hok, hwf⟩ := h
  have HI : Hid (RawV w v m) := h
  have HOK : Hid (okR m) := hok
  have HWF : Hid (wfR m) := hwf
  have hf := madeM_right m 8 (by omega) (by omega) false
  have hst := made_start m false
  generalize hM : madeM m 8 false = M at hf hst
  have HMM : Hid (madeM m 8 false = M) := hM
  clear hM hok hwf
  obtain ⟨z, l⟩ := M
  simp only at hst
  have HF : Hid (faultM (z, l) = 0) := hf
  have h60 : l.length ≤ 60 := (right_size hf).1
  have HAR : Hid (∀ k, k ≤ l.length → ∀ aa bs, cntK l aa bs k ≤ 400) := fun k hk aa bs => by
    have h1 := cntK_le l aa bs k hk
    have h2 := (right_size hf).2
    have h4 : arcN (l.take k) ≤ arcN l := by
      conv => rhs; rw [← List.take_append_drop k l, arcN_append]
      omega
    omega
  have HLL : Hid (∀ k, k < l.length → (el l k).2.length ≤ 400) := fun k hk => by have h1 := st_arcs hk; have h2 := (right_size hf).2; omega
  have HTO : Hid (∀ k, k < l.length → ∀ c ∈ (el l k).2, ∃ t : Nat, c.2.2.2 = (t : Int) ∧ t < l.length) := fun k hk c hc => to_right hf hk hc
  clear hf
  obtain ⟨vs, rfl, hN⟩ := h
  obtain ⟨ra, rcap, rfl, _⟩ := hN.get
  clear hN
  have HB0 : Hid (Below w.heap.size w (w.alloc (.cells #[.int .i64 m.1, .slice ra m.2.length rcap] 37))) := (Below.refl _ _).alloc (Nat.le_refl _) _
  have hnot : ∀ (x : Bool) (w : World), (Op.unary .not (.bool x)).run Try.prog w = .ok (.bool (!x)) w := fun _ _ => rfl
  obtain ⟨zn, hzn⟩ : ∃ zn : Nat, z = (zn : Int) := ⟨z.toNat, by omega⟩
  subst hzn
  go_enter Try.func7, Try.ntmps7
  go_wp2_with (first
    | (go_at_call 17; (with_reducible refine (made8 _ m false _ (HI.out.later HB0.out (Nat.le_refl _)) HOK.out HWF.out).mono ?_); rintro e w1 ⟨v1, rfl, hi, hb⟩; rw [HMM.out] at hi; have HI1 : Hid (Mach w1 v1 ((zn : Int), l)) := hi; obtain ⟨vs1, rfl, hS1⟩ := hi; obtain ⟨a1, cap1, rfl⟩ := hS1.sl; simp only at HI1; clear hS1; obtain ⟨s1, b1, hb1⟩ := boxed hb (by simp); have HB1 : Hid (Below w.heap.size w w1) := hb1; clear b1 hb1 hb)
    | (go_at_call 9; (with_reducible refine (ahead_ok _ ((zn : Int), l) _ (HI1.out.later (B := w1.heap.size) (by go_grown) (Nat.le_refl _)) (okRight HF.out) HF.out).mono ?_); rintro e w2 ⟨va, rfl, ⟨aa, hBa, hLa⟩, hb⟩; have HLa : Hid (Least (AheadC (zn : Int) l) l.length aa) := hLa; have HBa : Hid (Bools w2 va aa) := hBa; obtain ⟨xa, ca, hva, _⟩ := bools_cell hBa hLa.1; simp only at hva; subst hva; obtain ⟨s2, b2, hb2⟩ := boxed hb (by simp); have d0 := b2.cell 0 (v := .int .i64 (zn : Int)) rfl; have d1 := b2.cell 1 (v := .slice a1 l.length cap1) rfl; have HI2 : Hid (Mach w2 (.agg #[.int .i64 (zn : Int), .slice a1 l.length cap1]) ((zn : Int), l)) := HI1.out.later hb2 (Nat.le_refl _); have HB2 : Hid (Below w.heap.size w w2) := HB1.out.trans (hb2.mono HB1.out.size); clear hBa hLa b2 hb2 hb)
    | (go_at_call 13; (with_reducible refine (back_ok _ ((zn : Int), l) _ HI2.out (okRight HF.out) HF.out).mono ?_); rintro e w3 ⟨vb, rfl, ⟨bs, hBb, hLb⟩, hb⟩; have HLb : Hid (Least (BackC l) l.length bs) := hLb; have HBb : Hid (Bools w3 vb bs) := hBb; obtain ⟨xb, cb, hvb, _⟩ := bools_cell hBb hLb.1; simp only at hvb; subst hvb; have d0 := low d0 hb; have d1 := low d1 hb; have HI3 : Hid (Mach w3 (.agg #[.int .i64 (zn : Int), .slice a1 l.length cap1]) ((zn : Int), l)) := HI2.out.later hb (Nat.le_refl _); have HBa3 : Hid (Bools w3 (.slice xa l.length ca) aa) := HBa.out.later hb (Nat.le_refl _); have HB3 : Hid (Below w.heap.size w w3) := HB2.out.trans (hb.mono HB2.out.size); clear hBb hLb hb)
    | (go_at_call 15; (with_reducible refine (trim_run _ ((zn : Int), l) _ HI3.out (okRight HF.out) HF.out).mono ?_); rintro e w4 ⟨v4, rfl, ⟨aa4, hA, bs4, hB, hi⟩, hb⟩; (replace hi : Mach w4 v4 (trimM (zn : Int) l (keptL aa bs l.length)) := (by have h9 := hi; simp only at h9; rw [hA.one HLa.out, hB.one HLb.out] at h9; exact h9)); have HI4 : Hid (Mach w4 v4 (trimM (zn : Int) l (keptL aa bs l.length))) := hi; obtain ⟨vs4, rfl, hS4⟩ := hi; obtain ⟨a4, cap4, rfl⟩ := hS4.sl; have d0 := low d0 hb; have d1 := low d1 hb; have HJ4 : Hid (Mach w4 (.agg #[.int .i64 (zn : Int), .slice a1 l.length cap1]) ((zn : Int), l)) := HI3.out.later hb (Nat.le_refl _); have HBa4 : Hid (Bools w4 (.slice xa l.length ca) aa) := HBa3.out.later hb (Nat.le_refl _); have HBb4 : Hid (Bools w4 (.slice xb l.length cb) bs) := HBb.out.later hb (Nat.le_refl _); have HB4 : Hid (Below w.heap.size w w4) := HB3.out.trans (hb.mono HB3.out.size); have y1 : w1.heap.size < w4.heap.size := World.block_lt_of_cell? _ _ d0; clear hA hB hS4 hb))
  have HFT0 := trim_fault (aa := aa) (bs := bs) HF.out
  have HTL0 : (trimM (zn : Int) l (keptL aa bs l.length)).2.length = (keptL aa bs l.length).length := List.length_map _
  have HTA0 : arcN (trimM (zn : Int) l (keptL aa bs l.length)).2 = cntK l aa bs l.length := trim_count HF.out HLa.out l.length (Nat.le_refl _)
  generalize trimM (zn : Int) l (keptL aa bs l.length) = T at *
  obtain ⟨tz, tl⟩ := T
  simp only at HTL0 HTA0 HI4
  have HFT : Hid (faultM (tz, tl) = 0) := HFT0
  have HTL : Hid (tl.length = (keptL aa bs l.length).length) := HTL0
  have HTA : Hid (arcN tl = cntK l aa bs l.length) := HTA0
  have HCA : Hid (∀ j, j < l.length → ∃ b off, xa = some ⟨b, off, none⟩ ∧ b < w4.heap.size ∧ w4.cell? ⟨b, off + j, none⟩ = some (.bool (el aa j))) := by
    obtain ⟨a9, c9, hv, hc⟩ := bools_cell HBa4.out HLa.out.1
    simp only [Value.slice.injEq, true_and] at hv
    rw [hv.1]; exact hc
  have HCB : Hid (∀ j, j < l.length → ∃ b off, xb = some ⟨b, off, none⟩ ∧ b < w4.heap.size ∧ w4.cell? ⟨b, off + j, none⟩ = some (.bool (el bs j))) := by
    obtain ⟨a9, c9, hv, hc⟩ := bools_cell HBb4.out HLb.out.1
    simp only [Value.slice.injEq, true_and] at hv
    rw [hv.1]; exact hc
  have HCM : Hid (∀ j, j < l.length → ∃ b off va, a1 = some ⟨b, off, none⟩ ∧ b < w4.heap.size ∧ w4.cell? ⟨b, off + j * 2, none⟩ = some (.int .i64 (el l j).1) ∧ w4.cell? ⟨b, off + j * 2 + 1, none⟩ = some va ∧ Arcs w4 va (el l j).2) := by
    obtain ⟨vv, hv, hS⟩ := HJ4.out
    obtain ⟨aa9, cc, hv2, hc⟩ := hS.get
    rw [hv2] at hv
    simp only [Value.agg.injEq, Array.mk.injEq, List.cons.injEq, Value.slice.injEq, true_and, and_true] at hv
    intro j hj
    obtain ⟨b, off, va, h1, h2⟩ := hc j hj
    exact ⟨b, off, va, hv.1.trans h1, h2⟩
  have HCL : Hid (∀ q, q < l.length → el aa q = true → ∀ c ∈ (el l q).2, el aa c.2.2.2.toNat = true) := fun q hq h c hc => HLa.out.2.1.2 q hq h c hc
  have HSZ : Hid (el aa zn = true) := HLa.out.2.1.1 zn (by omega) rfl
  have hz1 : (zn : Int) < (l.length : Int) := hst.2
  have hz0 : (0 : Int) ≤ (zn : Int) := hst.1
  have hznl : zn < l.length := by omega
  have HKS : Hid (∀ q, keptL aa bs (q + 1) = keptL aa bs q ++ (if (el aa q && el bs q) = true then [(q : Int)] else [])) := fun q => keptL_succ aa bs q
  have HKL : Hid (∀ q, (keptL aa bs q).length ≤ q) := fun q => keptL_le aa bs q
  have HKC : Hid (∀ q, cntK l aa bs (q + 1) = cntK l aa bs q + (if (el aa q && el bs q) = true then (el l q).2.countP (fun a => el bs a.2.2.2.toNat) else 0)) := fun q => rfl
  clear HI1 HI2 HI3 HJ4 HBa HBb HBa3 HBa4 HBb4 HB1 HB2 HB3 HFT0 HTL0 HTA0 HLa HLb hst HF
  have T4 : Hid (Blk (w4.alloc (.cells #[.int .i64 tz, .slice a4 tl.length cap4] 24)) w4.heap.size #[.int .i64 tz, .slice a4 tl.length cap4] 24) := Blk.made _ _ _
  have Y4 : Hid (Below w4.heap.size w4 (w4.alloc (.cells #[.int .i64 tz, .slice a4 tl.length cap4] 24))) := (Below.refl _ _).alloc (Nat.le_refl _) _
  generalize hn : l.length = n at *
  have HN : Hid (l.length = n) := hn
  clear hn
  go_loopw [10, 11, 12] (fun s10 s11 i wr => ∃ k : Nat, k ≤ n ∧ s10 = .int .i64 ((keptL aa bs k).length : Int) ∧ s11 = .int .i64 (cntK l aa bs k : Int) ∧ i = .int .i64 k ∧ Hid (Blk wr w4.heap.size #[.int .i64 tz, .slice a4 tl.length cap4] 24) ∧ Hid (Below w4.heap.size w4 wr)) (fun _ _ i _ => n - (intOf i).toNat)
  case atStart => exact ⟨0, Nat.zero_le _, rfl, rfl, rfl, T4, Y4⟩
  case round =>
    obtain ⟨k, hk, rfl, rfl, rfl, ht, hb⟩ := hrel
    have p1 := (hb.out.cell (p := ⟨w1.heap.size, 1, none⟩) y1).trans d1
    have hkl := HKL.out k
    by_cases hlt : k < n
    · obtain ⟨b, off, rfl, hbl, g0⟩ := HCA.out k hlt
      obtain ⟨b2, off2, rfl, hbl2, g1⟩ := HCB.out k hlt
      have g0 := (hb.out.cell (p := ⟨b, off + k, none⟩) hbl).trans g0
      have g1 := (hb.out.cell (p := ⟨b2, off2 + k, none⟩) hbl2).trans g1
      have hk0 : (0 : Int) ≤ (k : Int) := by omega
      have hk1 : (k : Int) < (n : Int) := by omega
      have hS := HKS.out k
      have hC := HKC.out k
      have hc4 := HAR.out k hk aa bs
      rcases bool_cases' (el aa k) with e1 | e1
      · rcases bool_cases' (el bs k) with e2 | e2
        · have HE1 : Hid ((keptL aa bs (k + 1)).length = (keptL aa bs k).length + 1) := by show _ = _; rw [hS, e1, e2]; simp
          have HE2 : Hid (cntK l aa bs (k + 1) = cntK l aa bs k + (el l k).2.countP (fun a => el bs a.2.2.2.toNat)) := by show _ = _; rw [hC, e1, e2]; rfl
          have HAC : Hid (∀ c ∈ (el l k).2, el aa c.2.2.2.toNat = true) := HCL.out k hlt e1
          have HTK : Hid (∀ c ∈ (el l k).2, ∃ t : Nat, c.2.2.2 = (t : Int) ∧ t < n) := HTO.out k hlt
          have hL4 := HLL.out k hlt
          rw [e1] at g0
          rw [e2] at g1
          obtain ⟨b3, off3, va, rfl, hbl3, r0, r1, rA⟩ := HCM.out k hlt
          obtain ⟨a5, cap5, hva, hga⟩ := rA.get
          subst hva
          have HGA : Hid (∀ j, j < (el l k).2.length → ∃ b off, a5 = some ⟨b, off, none⟩ ∧ b < w4.heap.size ∧ w4.cell? ⟨b, off + j * 4, none⟩ = some (.int .i64 (el (el l k).2 j).1) ∧ w4.cell? ⟨b, off + j * 4 + 1, none⟩ = some (.int .i64 (el (el l k).2 j).2.1) ∧ w4.cell? ⟨b, off + j * 4 + 2, none⟩ = some (.int .i64 (el (el l k).2 j).2.2.1) ∧ w4.cell? ⟨b, off + j * 4 + 3, none⟩ = some (.int .i64 (el (el l k).2 j).2.2.2)) := hga
          clear hga rA e1 e2 hS hC
          generalize (el l k).1 = f at *
          generalize (el l k).2 = ar at *
          generalize (keptL aa bs k).length = K at *
          generalize cntK l aa bs k = C at *
          generalize hL : ar.length = L at *
          have HL : Hid (ar.length = L) := hL
          clear hL
          go_wp2
          go_loopw [11, 13] (fun s11 i wr => ∃ j : Nat, j ≤ L ∧ s11 = .int .i64 ((C + (ar.take j).countP (fun a => el bs a.2.2.2.toNat) : Nat) : Int) ∧ i = .int .i64 j ∧ Hid (Blk wr w4.heap.size #[.int .i64 tz, .slice a4 tl.length cap4] 24) ∧ Hid (Below w4.heap.size w4 wr)) (fun _ i _ => L - (intOf i).toNat)
          case atStart => exact ⟨0, Nat.zero_le _, rfl, rfl, ht, hb⟩
          case round =>
            obtain ⟨j, hj, rfl, rfl, ht, hb⟩ := hrel
            have p1 := (hb.out.cell (p := ⟨w1.heap.size, 1, none⟩) y1).trans d1
            have r1 := (hb.out.cell (p := ⟨b3, off3 + k * 2 + 1, none⟩) hbl3).trans r1
            by_cases hjl : j < L
            · obtain ⟨b6, off6, rfl, hbl6, _, _, _, e3⟩ := HGA.out j hjl
              have e3 := (hb.out.cell (p := ⟨b6, off6 + j * 4 + 3, none⟩) hbl6).trans e3
              have hmem : el ar j ∈ ar := el_mem (by rw [HL.out]; exact hjl)
              obtain ⟨t, ht9, htn⟩ := HTK.out _ hmem
              have hat := HAC.out _ hmem
              have hcp := countP_take (p := fun a => el bs a.2.2.2.toNat) (ar := ar) (j := j) (by rw [HL.out]; exact hjl)
              rw [ht9, Int.toNat_natCast] at hat
              simp only [ht9, Int.toNat_natCast] at hcp
              rw [ht9] at e3
              have hcl : (ar.take j).countP (fun a => el bs a.2.2.2.toNat) ≤ 400 := by
                have h9 := List.countP_le_length (p := fun a : Ar => el bs a.2.2.2.toNat) (l := ar.take j)
                rw [List.length_take] at h9
                omega
              generalize (ar.take j).countP (fun a => el bs a.2.2.2.toNat) = D at *
              obtain ⟨b7, off7, h7, hbl7, u0⟩ := HCA.out t htn
              obtain ⟨b8, off8, h8, hbl8, u1⟩ := HCB.out t htn
              simp only [Option.some.injEq, Addr.mk.injEq, and_true] at h7 h8
              obtain ⟨rfl, rfl⟩ := h7
              obtain ⟨rfl, rfl⟩ := h8
              rw [hat] at u0
              have u0 := (hb.out.cell (p := ⟨b, off + t, none⟩) hbl).trans u0
              have u1 := (hb.out.cell (p := ⟨b2, off2 + t, none⟩) hbl2).trans u1
              have hj0 : (0 : Int) ≤ (j : Int) := by omega
              have hj1 : (j : Int) < (L : Int) := by omega
              have ht0 : (0 : Int) ≤ (t : Int) := by omega
              have ht1 : (t : Int) < (n : Int) := by omega
              clear hat ht9
              rcases bool_cases' (el bs t) with e4 | e4
              · rw [e4] at u1 hcp
                have HCP : Hid ((ar.take (j + 1)).countP (fun a => el bs a.2.2.2.toNat) = D + 1) := hcp
                clear hcp e4
                go_wp2
                go_roundw
                case rel => exact ⟨j + 1, by omega, by rw [HCP.out]; go_num, by go_num, ht, hb⟩
                case measure => simp [intOf]; omega
              · rw [e4] at u1 hcp
                have HCP : Hid ((ar.take (j + 1)).countP (fun a => el bs a.2.2.2.toNat) = D) := by show _ = _; rw [hcp]; simp
                clear hcp e4
                go_wp2
                go_roundw
                case rel => exact ⟨j + 1, by omega, by rw [HCP.out], by go_num, ht, hb⟩
                case measure => simp [intOf]; omega
            · have hnl : ¬ (j : Int) < (L : Int) := by omega
              have HJ : Hid (C + (ar.take j).countP (fun a => el bs a.2.2.2.toNat) = cntK l aa bs (k + 1)) := by show _ = _; rw [show j = ar.length by rw [HL.out]; omega, List.take_length]; exact HE2.out.symm
              rw [HJ.out]
              go_wp2
              go_roundw
              case rel => exact ⟨k + 1, by omega, by rw [HE1.out]; go_num, rfl, by go_num, ht, hb⟩
              case measure => simp [intOf]; omega
        · have HE1 : Hid ((keptL aa bs (k + 1)).length = (keptL aa bs k).length) := by show _ = _; rw [hS, e1, e2]; simp
          have HE2 : Hid (cntK l aa bs (k + 1) = cntK l aa bs k) := by show _ = _; rw [hC, e1, e2]; rfl
          rw [e1] at g0
          rw [e2] at g1
          clear e1 e2 hS hC
          go_wp2
          go_roundw
          case rel => exact ⟨k + 1, by omega, by rw [HE1.out], by rw [HE2.out], by go_num, ht, hb⟩
          case measure => simp [intOf]; omega
      · have HE1 : Hid ((keptL aa bs (k + 1)).length = (keptL aa bs k).length) := by show _ = _; rw [hS, e1]; simp
        have HE2 : Hid (cntK l aa bs (k + 1) = cntK l aa bs k) := by show _ = _; rw [hC, e1]; rfl
        rw [e1] at g0
        clear e1 hS hC
        go_wp2
        go_roundw
        case rel => exact ⟨k + 1, by omega, by rw [HE1.out], by rw [HE2.out], by go_num, ht, hb⟩
        case measure => simp [intOf]; omega
    · have hnl : ¬ (k : Int) < (n : Int) := by omega
      have hke : k = n := by omega
      have e1 : (keptL aa bs k).length = tl.length := by rw [hke]; exact HTL.out.symm
      have e2 : cntK l aa bs k = arcN tl := by rw [hke]; exact HTA.out.symm
      rw [e1, e2]
      have HCS : Hid (if (0 : Int) = 0 then ((tl.length : Nat) : Int) = (tl.length : Int) ∧ ((arcN tl : Nat) : Int) = (arcN tl : Int) ∧ ((finN tl : Nat) : Int) = (finN tl : Int) else ((tl.length : Nat) : Int) = 0 ∧ ((arcN tl : Nat) : Int) = 0 ∧ ((finN tl : Nat) : Int) = 0) := by show ite _ _ _; rw [if_pos rfl]; exact ⟨rfl, rfl, rfl⟩
      have HIC : Hid (Mach wr (.agg #[.int .i64 tz, .slice a4 tl.length cap4]) (tz, tl)) := HI4.out.later hb.out (Nat.le_refl _)
      have t0 := ht.out.cell 0 (v := .int .i64 tz) rfl
      have t1 := ht.out.cell 1 (v := .slice a4 tl.length cap4) rfl
      have p0 := (hb.out.cell (p := ⟨w1.heap.size, 0, none⟩) y1).trans d0
      obtain ⟨b, off, rfl, hbl, g0⟩ := HCA.out zn hznl
      rw [HSZ.out] at g0
      have g0 := (hb.out.cell (p := ⟨b, off + zn, none⟩) hbl).trans g0
      have HBF : Hid (Below w.heap.size w wr) := HB4.out.trans (hb.out.mono HB4.out.size)
      clear hke e1 e2 ht hb HI4
      go_wp2_with (first
        | (go_at_call 19; (with_reducible refine (count_any _ (tz, tl) _ HIC.out (okRight HFT.out) 0 ((tl.length : Nat) : Int) ((arcN tl : Nat) : Int) ((finN tl : Nat) : Int) HFT.out HCS.out).mono ?_); rintro e w5 ⟨rfl, hb5⟩; have p0 := low p0 hb5; have g0 := low g0 hb5; have z1 : w1.heap.size < w5.heap.size := World.block_lt_of_cell? _ _ p0; have z2 : b < w5.heap.size := World.block_lt_of_cell? _ _ g0; have HB5 : Hid (Below w.heap.size w w5) := HBF.out.trans (hb5.mono HBF.out.size); clear hb5))
      go_ret
      exact ⟨rfl, by (have h := HB5.out); go_grown⟩

set_option maxRecDepth 100000 in
theorem lifted (os : Os) (started : os.Started) (H : Type) (enc : TypeId × Value → H) :
    ReturnsInHanded {} Try.checked os 7 .any (Rows.trimDropsSpec.pre6 enc Try.prog Try.f7 Rows.trimDropsRow.domain false) (Rows.trimDropsSpec.post enc Try.prog Try.f7 false true false false) := by
  refine returnsInHanded_of_change_sized (C := Try.checked) own started (by kernel_rfl) Try.func7
    (ChangeSpec.witness6 (enc := enc) (C := Try.checked) false ⟨#[], #[.agg #[.int .i64 0, .slice none 0 0]], []⟩ 8 (by kernel_rfl) (by kernel_rfl) (by kernel_rfl) (by kernel_rfl)) ?_
  intro W base args ds gs before hval0 hW hcnd hsz0 _
  have hsz : (DataW.weightsEach Try.prog (Try.f7.params.toList ++ Rows.trimDropsSpec.plain.varTypes Try.prog) (ds ++ gs)).all (· ≤ reachBytes) = true := hsz0
  have hval : ∀ (j : Nat) t v, Try.f7.params[j]? = some t → args[j]? = some v → Value.okWide Try.prog W .any base t v := hval0
  clear hval0 hsz0
  have hW' := hW
  obtain ⟨p, q, hA0, hV, rfl, hfz, hnd⟩ := hW
  have hA : DataW.TrodAll enc Try.prog W 0 (fun _ => true) true Try.f7.params.toList args.toList ds p := hA0
  rw [Try.params7] at hA hval hsz
  obtain ⟨v0, vs0, d0, ds0, p0, q0, hargs, rfl, rfl, h0, r0⟩ := trodAll_cons hA
  obtain ⟨rfl, rfl, rfl⟩ := trodAll_nil r0
  obtain rfl : args = #[v0] := by cases args; simp_all
  obtain ⟨rfl, rfl⟩ := trodVars_none hV
  have k0 := h0
  have lt0 : ∀ x ∈ p0, x.block < W.heap.size := by obtain ⟨m, hm⟩ := k0; exact DataW.trod_lt m _ _ _ hm
  obtain ⟨z0, w0⟩ : ∃ m : Rw, RawV W v0 m ∧ okR m ∧ wfR m := by
    obtain ⟨c0, c1, y0, y1, n, rfl, hd, hp, t0, t1⟩ := Go.Joins.open_agg2 Try.underlying37 (by kernel_rfl) (by kernel_rfl) (hval 0 37 v0 rfl rfl) h0
    subst hd
    exact open_raw t0 t1 ((Fits.arg hsz (j := 0) rfl rfl).field Try.underlying37 (f := 1) rfl rfl)
  refine (walk v0 z0 W w0).mono fun e W' ⟨he, bel⟩ => ?_
  subst he
  exact ⟨_, rfl, _, _, _, [], _, [], hW', trodAll_mk1 (shut_bool Try.underlying4 _), (trodAll_cons_mk (Below.trod laidOut (by kernel_rfl) (of_decide_eq_true (by kernel_rfl)) k0 bel lt0) trodAll_mk0), rfl, bel.frame _, fun h => by cases h⟩
end Go.Proofs.Ytfkiiedbcjbkiaa.trimDrops
namespace Go.Proofs.Ytfkiiedbcjbkiaa
theorem trimDrops_holds : Rows.TrimDropsSaid :=
  OpenClaim.holds_of_wide 7 Try.f7 rfl rfl rfl rfl rfl rfl rfl ⟨rfl, rfl, rfl, rfl, rfl⟩ rfl rfl rfl rfl rfl (by kernel_rfl) Try.func7 (by kernel_rfl)
    (of_decide_eq_true (by kernel_rfl)) (by unfold Func.isWrapper; first | (rw [if_pos (by decide +kernel)]; kernel_rfl) | (rw [if_neg (by decide +kernel)]; exact ⟨rfl, rfl⟩))
    (fun os started H enc _ => trimDrops.lifted os started H enc)
#print axioms trimDrops_holds
end Go.Proofs.Ytfkiiedbcjbkiaa
