/- The program: how many arcs the longest way to each state has. -/
import Derived.Test.YtfajkomajbhphaaOw
namespace Go.Proofs.Ytfajkomajbhphaa.Pl
/-- A list of numbers of arcs. -/
def LenL (n : Nat) (f : Nat → Int) (ns : List Int) : Prop := ns.length = n ∧ ∀ j, j < n → el ns j = f j
theorem LenL.congr {n : Nat} {f g : Nat → Int} {ns : List Int} (h : LenL n f ns) (e : ∀ j, j < n → g j = f j) : LenL n g ns := ⟨h.1, fun j hj => by rw [h.2 j hj, e j hj]⟩
theorem LenL.set {n : Nat} {f : Nat → Int} {ns : List Int} (h : LenL n f ns) {t : Nat} (ht : t < n) (x : Int) : LenL n (updD f t x) (ns.set t x) := by
  refine ⟨by rw [List.length_set]; exact h.1, fun j hj => ?_⟩
  rw [el_setZ (by rw [h.1]; exact ht)]
  unfold updD
  split
  · rfl
  · exact h.2 j hj
/-- The first q ones are set. -/
def NoneL (n q : Nat) (ns : List Int) : Prop := ns.length = n ∧ ∀ j, j < q → el ns j = -1
theorem NoneL.start (n : Nat) : NoneL n 0 (List.replicate n 0) := ⟨by simp, fun j hj => absurd hj (Nat.not_lt_zero _)⟩
theorem NoneL.set {n q : Nat} {ns : List Int} (h : NoneL n q ns) (hq : q < n) : NoneL n (q + 1) (ns.set q (-1)) := by
  refine ⟨by rw [List.length_set]; exact h.1, fun j hj => ?_⟩
  rw [el_setZ (by rw [h.1]; exact hq)]
  split
  · rfl
  · exact h.2 j (by omega)
theorem NoneL.lens {n : Nat} {ns : List Int} (h : NoneL n n ns) : LenL n (fun _ => -1) ns := ⟨h.1, h.2⟩
end Go.Proofs.Ytfajkomajbhphaa.Pl
namespace Go.Proofs.Ytfajkomajbhphaa.Wt
open Go.ChangeShapes Go.WideShapes Go.ChangeAt Go.RowKit
open Go.Proofs.Ytfajkomajbhphaa.Pl
set_option linter.unusedVariables false
set_option linter.unusedSimpArgs false
set_option maxRecDepth 100000 in
set_option maxHeartbeats 3200000 in
theorem steps_anyN (z : Int) (vs : Value) (l : List St) (vo : Value) (out : List Int) (w : World) (h : Mach w (.agg #[.int .i64 z, vs]) (z, l)) (hr : faultM (z, l) = 0) (ho : Nums w vo out) (hO : OrderL l out) (hz0 : z < 0) :
    Calls Try.prog 38 #[.agg #[.int .i64 z, vs], vo] w fun e w' => ∃ v', e = .returned v' ∧ (∃ ns, Nums w' v' ns ∧ LenL l.length (addW l out (begD z)) ns) ∧ Below w.heap.size w w' := by
  have hz := (faultM_zero hr).2
  simp only [rangeB, Bool.and_eq_true, inB, decide_eq_true_eq] at hz
  have hz1 : -1 ≤ z := hz.1.1
  have hz2 : z < (l.length : Int) := by omega
  clear hz
  obtain ⟨vs', hvs, hS⟩ := h
  simp only [Value.agg.injEq, Array.mk.injEq, List.cons.injEq, and_true, true_and] at hvs
  subst hvs
  obtain ⟨a, cap, rfl, hc⟩ := hS.get
  have HC : Hid (∀ j, j < l.length → ∃ b off va, a = some ⟨b, off, none⟩ ∧ b < w.heap.size ∧ w.cell? ⟨b, off + j * 2, none⟩ = some (.int .i64 (el l j).1) ∧ w.cell? ⟨b, off + j * 2 + 1, none⟩ = some va ∧ Arcs w va (el l j).2) := hc
  have h60 := (right_size hr).1
  have hto : ∀ q, q < l.length → ∀ a ∈ (el l q).2, ∃ t : Nat, a.2.2.2 = (t : Int) ∧ t < l.length := fun q hq a ha => by
    have h9 := List.all_eq_true.1 (right_st hr hq).2 a ha
    simp only [arcB, inB, Bool.and_eq_true, decide_eq_true_eq] at h9
    exact ⟨a.2.2.2.toNat, by omega, by omega⟩
  have HTO : Hid (∀ q, q < l.length → ∀ a ∈ (el l q).2, ∃ t : Nat, a.2.2.2 = (t : Int) ∧ t < l.length) := hto
  have HSZ : Hid (∀ q, q < l.length → (el l q).2.length ≤ 400) := fun q hq => Nat.le_trans (arcs_len hq) (right_size hr).2
  have HOL : Hid (OrderL l out) := hO
  have HWB : Hid (∀ i, i ≤ out.length → WayB (addW l (out.take i) (begD z)) (i : Int)) := way_bound hO hto z
  have HAF : Hid (∀ i q : Nat, i < out.length → el out i = (q : Int) → ∀ a ∈ (el l q).2, a.2.2.2.toNat ≠ q ∧ a.2.2.2.toNat < l.length) := fun i q hi hq => arc_facts hO hto hi hq
  obtain ⟨xa, ca, hva, hca⟩ := ho.get
  rw [hO.2] at hva hca
  subst hva
  have HCA : Hid (∀ j, j < l.length → ∃ b off, xa = some ⟨b, off, none⟩ ∧ b < w.heap.size ∧ w.cell? ⟨b, off + j, none⟩ = some (.int .i64 (el out j))) := hca
  clear hS hc hr ho hca hO hto
  generalize hn : l.length = n at *
  have HN : Hid (l.length = n) := hn
  clear hn
  have hmk := run_nums n (by omega)
  go_enter Try.func38, Try.ntmps38
  go_wp2
  go_loopw [17] (fun i wr => ∃ (k : Nat) (ns : List Int), k ≤ n ∧ i = .int .i64 k ∧ Hid (NoneL n k ns) ∧ Hid (Blk wr (w.heap.size + 1) (ns.map (Value.int .i64)).toArray 3) ∧ Hid (Blk wr w.heap.size #[.int .i64 z, .slice a n cap] 24) ∧ Hid (Below w.heap.size w wr)) (fun i _ => n - (intOf i).toNat)
  case atStart =>
    have hmd : Blk ((w.alloc (.cells #[.int .i64 z, .slice a n cap] 24)).alloc (.cells ((List.replicate n (0 : Int)).map (Value.int .i64)).toArray 3)) (w.heap.size + 1) ((List.replicate n (0 : Int)).map (Value.int .i64)).toArray 3 := by
      have h9 := Blk.made (w.alloc (.cells #[.int .i64 z, .slice a n cap] 24)) ((List.replicate n (0 : Int)).map (Value.int .i64)).toArray 3
      simp only [World.size_alloc] at h9
      exact h9
    have e1 : ((List.replicate n (0 : Int)).map (Value.int .i64)).toArray = Array.replicate n (Value.int .i64 0) := by simp
    exact ⟨0, List.replicate n 0, Nat.zero_le _, rfl, NoneL.start n, by (show Blk _ _ _ _); rw [e1] at hmd ⊢; exact hmd, (Blk.made w _ _).alloc _, ((Below.refl _ _).alloc (Nat.le_refl _) _).alloc (by simp) _⟩
  case round =>
    obtain ⟨k, ns, hk, rfl, hns, hblk, hbx, hb⟩ := hrel
    by_cases hkn : k < n
    · have y0 := num_cell hblk.out (j := k) (by rw [hns.out.1]; exact hkn)
      have y1 := hblk.out.fz k
      have k0 : (0 : Int) ≤ (k : Int) := by omega
      have k1 : (k : Int) < (n : Int) := by omega
      have HN2 : Hid (NoneL n (k + 1) (ns.set k (-1))) := hns.out.set hkn
      have B2 : Hid (Blk (wr.setCell ⟨w.heap.size + 1, k, none⟩ (.int .i64 (-1))) (w.heap.size + 1) ((ns.set k (-1)).map (Value.int .i64)).toArray 3) := by have h9 := hblk.out.set k (.int .i64 (-1)); rw [set_num] at h9; exact h9
      have X2 : Blk (wr.setCell ⟨w.heap.size + 1, k, none⟩ (.int .i64 (-1))) w.heap.size #[.int .i64 z, .slice a n cap] 24 := hbx.out.setO _ _ (by show w.heap.size ≠ w.heap.size + 1; omega)
      have Y2 : Below w.heap.size w (wr.setCell ⟨w.heap.size + 1, k, none⟩ (.int .i64 (-1))) := hb.out.setCell (by show w.heap.size ≤ w.heap.size + 1; omega) _
      go_wp2
      go_roundw
      case rel =>
        first
          | exact ⟨k + 1, by omega, by omega, _, HN2, B2⟩
          | exact ⟨k + 1, _, by omega, by go_num, HN2, B2, X2, Y2⟩
      case measure => simp [intOf]; omega
    · have hnl : ¬ (k : Int) < (n : Int) := by omega
      have HNL : Hid (NoneL n n ns) := by have h9 := hns.out; rw [show k = n by omega] at h9; exact h9
      have HST : Hid (LenL n (addW l (out.take 0) (begD z)) ns) := HNL.out.lens.congr (fun j _ => by
        show begD z j = -1
        unfold begD
        rw [if_neg (by omega)])
      have B0 : Hid (Blk wr (w.heap.size + 1) (ns.map (Value.int .i64)).toArray 3) := hblk
      have X0 : Hid (Blk wr w.heap.size #[.int .i64 z, .slice a n cap] 24) := hbx
      have Y0 : Hid (Below w.heap.size w wr) := hb
      have c0 := hbx.out.cell 0 (v := .int .i64 z) rfl
      clear HNL hns hblk hbx hb
      go_wp2
      clear c0
      go_loopw [33] (fun i wr => ∃ (k : Nat) (ns : List Int), k ≤ n ∧ i = .int .i64 k ∧ Hid (LenL n (addW l (out.take k) (begD z)) ns) ∧ Hid (Blk wr (w.heap.size + 1) (ns.map (Value.int .i64)).toArray 3) ∧ Hid (Blk wr w.heap.size #[.int .i64 z, .slice a n cap] 24) ∧ Hid (Below w.heap.size w wr)) (fun i _ => n - (intOf i).toNat)
      case atStart => exact ⟨0, _, Nat.zero_le _, rfl, HST, B0, X0, Y0⟩
      case round =>
        clear HST B0 X0 Y0
        obtain ⟨k, ns, hk, rfl, hns, hblk, hbx, hb⟩ := hrel
        by_cases hkn : k < n
        · obtain ⟨bo, oo, rfl, hbol, go⟩ := HCA.out k hkn
          have go := (hb.out.cell (p := ⟨bo, oo + k, none⟩) hbol).trans go
          obtain ⟨q, hq, hqn, _⟩ := HOL.out.at (i := k) (by rw [HOL.out.2, HN.out]; exact hkn)
          have HAQ : Hid (∀ a ∈ (el l q).2, a.2.2.2.toNat ≠ q) := fun c hc => (HAF.out k q (by rw [HOL.out.2, HN.out]; exact hkn) hq c hc).1
          have HSU : Hid (addW l (out.take (k + 1)) (begD z) = wayQ l q (addW l (out.take k) (begD z))) := addW_take l (by rw [HOL.out.2, HN.out]; exact hkn) hq _
          have hwb := HWB.out k (by rw [HOL.out.2, HN.out]; exact hk) q
          rw [hq] at go
          rw [HN.out] at hqn
          obtain ⟨b, off, va, rfl, hbl, g0, g1, gA⟩ := HC.out q hqn
          obtain ⟨a2, cap2, hva, hga⟩ := gA.get
          subst hva
          have g1 := (hb.out.cell (p := ⟨b, off + q * 2 + 1, none⟩) hbl).trans g1
          have HGA : Hid (∀ j, j < (el l q).2.length → ∃ b off, a2 = some ⟨b, off, none⟩ ∧ b < w.heap.size ∧ w.cell? ⟨b, off + j * 4, none⟩ = some (.int .i64 (el (el l q).2 j).1) ∧ w.cell? ⟨b, off + j * 4 + 1, none⟩ = some (.int .i64 (el (el l q).2 j).2.1) ∧ w.cell? ⟨b, off + j * 4 + 2, none⟩ = some (.int .i64 (el (el l q).2 j).2.2.1) ∧ w.cell? ⟨b, off + j * 4 + 3, none⟩ = some (.int .i64 (el (el l q).2 j).2.2.2)) := hga
          have HAL : Hid (∀ a ∈ (el l q).2, ∃ t : Nat, a.2.2.2 = (t : Int) ∧ t < n) := HTO.out q hqn
          have hL4 := HSZ.out q hqn
          have c1 := hbx.out.cell 1 (v := .slice (some ⟨b, off, none⟩) n cap) rfl
          have yq := num_cell hblk.out (j := q) (by rw [hns.out.1]; exact hqn)
          rw [hns.out.2 q hqn] at yq
          have hk0 : (0 : Int) ≤ (k : Int) := by omega
          have hk1 : (k : Int) < (n : Int) := by omega
          have hq0 : (0 : Int) ≤ (q : Int) := by omega
          have hq1 : (q : Int) < (n : Int) := by omega
          clear gA hga g0 hq
          by_cases hno : addW l (out.take k) (begD z) q = -1
          · have HN5 : Hid (LenL n (addW l (out.take (k + 1)) (begD z)) ns) := by
              show LenL _ _ _
              rw [HSU.out, wayQ, if_pos hno]
              exact hns.out
            rw [hno] at yq
            clear hno hns HSU hwb
            go_wp2
            go_roundw
            case rel => exact ⟨k + 1, ns, by omega, by go_num, HN5, hblk, hbx, hb⟩
            case measure => simp [intOf]; omega
          · have HSU : Hid (addW l (out.take (k + 1)) (begD z) = addM q (el l q).2 (addW l (out.take k) (begD z))) := by show _ = _; rw [HSU.out, wayQ, if_neg hno]
            generalize addW l (out.take k) (begD z) = X at *
            generalize (el l q).2 = ar at *
            generalize hL : ar.length = L at *
            have HL : Hid (ar.length = L) := hL
            clear hL
            have HXQ : Hid (∀ j, addM q (ar.take j) X q = X q) := fun j => addM_same (fun c hc => HAQ.out c (List.mem_of_mem_take hc)) X
            generalize hxq : X q = D at *
            have hdn : ¬ D = -1 := hno
            have hdb : (D == -1) = false := by simp [hdn]
            clear hxq
            go_wp2
            go_loopw [49] (fun i wr => ∃ (j : Nat) (ns : List Int), j ≤ L ∧ i = .int .i64 j ∧ Hid (LenL n (addM q (ar.take j) X) ns) ∧ Hid (Blk wr (w.heap.size + 1) (ns.map (Value.int .i64)).toArray 3) ∧ Hid (Blk wr w.heap.size #[.int .i64 z, .slice (some ⟨b, off, none⟩) n cap] 24) ∧ Hid (Below w.heap.size w wr)) (fun i _ => L - (intOf i).toNat)
            case atStart => exact ⟨0, ns, Nat.zero_le _, rfl, hns, hblk, hbx, hb⟩
            case round =>
              clear hns hblk hbx hb c1 go yq
              obtain ⟨j, ns, hj, rfl, hns, hblk, hbx, hb⟩ := hrel
              by_cases hjL : j < L
              · obtain ⟨b3, off3, rfl, hb3l, e0, e1, e2, e3⟩ := HGA.out j hjL
                have e0 := (hb.out.cell (p := ⟨b3, off3 + j * 4, none⟩) hb3l).trans e0
                have e1 := (hb.out.cell (p := ⟨b3, off3 + j * 4 + 1, none⟩) hb3l).trans e1
                have e2 := (hb.out.cell (p := ⟨b3, off3 + j * 4 + 2, none⟩) hb3l).trans e2
                have e3 := (hb.out.cell (p := ⟨b3, off3 + j * 4 + 3, none⟩) hb3l).trans e3
                obtain ⟨t, ht, htn⟩ := HAL.out (el ar j) (el_mem (by rw [HL.out]; exact hjL))
                have HT : Hid (addM q (ar.take (j + 1)) X = updD (addM q (ar.take j) X) t (max (addM q (ar.take j) X t) (addM q (ar.take j) X q + 1))) := addM_take q (by rw [HL.out]; exact hjL) ht X
                have hYq := HXQ.out j
                rw [ht] at e3
                generalize (el ar j).1 = x0 at *
                generalize (el ar j).2.1 = x1 at *
                generalize (el ar j).2.2.1 = x2 at *
                clear ht
                generalize hY : addM q (ar.take j) X = Y at *
                clear hY
                have ht9 := hns.out.2 t htn
                have hq9 := hns.out.2 q hqn
                rw [hYq] at hq9
                have HN2 : Hid (LenL n (addM q (ar.take (j + 1)) X) (ns.set t (max (Y t) (D + 1)))) := by
                  show LenL _ _ _
                  rw [HT.out, hYq]
                  exact hns.out.set htn _
                generalize Y t = A at *
                have hj0 : (0 : Int) ≤ (j : Int) := by omega
                have hj1 : (j : Int) < (L : Int) := by omega
                have ht0 : (0 : Int) ≤ (t : Int) := by omega
                have ht1 : (t : Int) < (n : Int) := by omega
                have kw : IntKind.i64.wrap (D + 1) = D + 1 := wrapI (by omega) (by omega)
                have hxl : w.heap.size + 1 < wr.heap.size := hblk.out.lt
                have B1 : Hid (Blk (wr.alloc (.cells #[.int .i64 x0, .int .i64 x1, .int .i64 x2, .int .i64 (t : Int)] 60)) (w.heap.size + 1) (ns.map (Value.int .i64)).toArray 3) := hblk.out.alloc _
                have A1 : Hid (Blk (wr.alloc (.cells #[.int .i64 x0, .int .i64 x1, .int .i64 x2, .int .i64 (t : Int)] 60)) wr.heap.size #[.int .i64 x0, .int .i64 x1, .int .i64 x2, .int .i64 (t : Int)] 60) := Blk.made _ _ _
                have X1 : Hid (Blk (wr.alloc (.cells #[.int .i64 x0, .int .i64 x1, .int .i64 x2, .int .i64 (t : Int)] 60)) w.heap.size #[.int .i64 z, .slice (some ⟨b, off, none⟩) n cap] 24) := hbx.out.alloc _
                have Y1 : Hid (Below w.heap.size w (wr.alloc (.cells #[.int .i64 x0, .int .i64 x1, .int .i64 x2, .int .i64 (t : Int)] 60))) := hb.out.alloc hb.out.size _
                have HLN : Hid (ns.length = n) := hns.out.1
                clear hns hblk hbx hb
                go_wp2
                generalize hW : wr.alloc (.cells #[.int .i64 x0, .int .i64 x1, .int .i64 x2, .int .i64 (t : Int)] 60) = W1 at *
                clear hW
                have HS : HeldJ (w.heap.size + 1) wr.heap.size t q A D W1.drew := ⟨A1.out.drew.cell 3 rfl, by rw [← ht9]; exact num_cell B1.out.drew (by rw [HLN.out]; exact htn), by rw [← hq9]; exact num_cell B1.out.drew (by rw [HLN.out]; exact hqn)⟩
                have HB2 : Hid (Blk (W1.drew.setCell ⟨w.heap.size + 1, t, none⟩ (.int .i64 (max A (D + 1)))) (w.heap.size + 1) ((ns.set t (max A (D + 1))).map (Value.int .i64)).toArray 3) := by have h9 := B1.out.drew.set t (.int .i64 (max A (D + 1))); rw [set_num] at h9; exact h9
                have X2 : Hid (Blk (W1.drew.setCell ⟨w.heap.size + 1, t, none⟩ (.int .i64 (max A (D + 1)))) w.heap.size #[.int .i64 z, .slice (some ⟨b, off, none⟩) n cap] 24) := X1.out.drew.setO _ _ (by show w.heap.size ≠ w.heap.size + 1; omega)
                have Y2 : Hid (Below w.heap.size w (W1.drew.setCell ⟨w.heap.size + 1, t, none⟩ (.int .i64 (max A (D + 1))))) := Y1.out.drew.setCell (by show w.heap.size ≤ w.heap.size + 1; omega) _
                have c4 : W1.drew.cell? ⟨w.heap.size + 1, t, none⟩ = some (.int .i64 A) := HS.2.1
                have f4 := B1.out.drew.fz t
                refine region_anyL (HeldJ (w.heap.size + 1) wr.heap.size t q A D) 15 (by kernel_rfl) ?_
                generalize W1.drew = W2 at *
                refine anyL_take (i := 0) (v := ?v0_1) at0 (by kernel_rfl) (by kernel_rfl) (by kernel_rfl) (by kernel_rfl) (fun _ _ _ h => h) rfl ?y0_1 HS ?r0_1
                case y0_1 => intro wx hx; obtain ⟨h1, h2, h3⟩ := hx; go_simp; try (with_reducible rfl)
                simp only [Act.put, List.setIfInBounds_toArray, List.set_cons_zero, List.set_cons_succ]
                refine anyL_take (i := 1) (v := ?v1_2) (atS at0) (by kernel_rfl) (by kernel_rfl) (by kernel_rfl) (by kernel_rfl) (fun _ _ _ h => h) rfl ?y1_2 HS ?r1_2
                case y1_2 => intro wx hx; obtain ⟨h1, h2, h3⟩ := hx; go_simp; try (with_reducible rfl)
                simp only [Act.put, List.setIfInBounds_toArray, List.set_cons_zero, List.set_cons_succ]
                refine anyL_take (i := 2) (v := ?v2_3) (atS (atS at0)) (by kernel_rfl) (by kernel_rfl) (by kernel_rfl) (by kernel_rfl) (fun _ _ _ h => h) rfl ?y2_3 HS ?r2_3
                case y2_3 => intro wx hx; obtain ⟨h1, h2, h3⟩ := hx; go_simp; try (with_reducible rfl)
                simp only [Act.put, List.setIfInBounds_toArray, List.set_cons_zero, List.set_cons_succ]
                refine anyL_take (i := 3) (v := ?v3_4) (atS (atS (atS at0))) (by kernel_rfl) (by kernel_rfl) (by kernel_rfl) (by kernel_rfl) (fun _ _ _ h => h) rfl ?y3_4 HS ?r3_4
                case y3_4 => intro wx hx; obtain ⟨h1, h2, h3⟩ := hx; go_simp; try (with_reducible rfl)
                simp only [Act.put, List.setIfInBounds_toArray, List.set_cons_zero, List.set_cons_succ]
                refine anyL_take (i := 4) (v := ?v4_5) (atS (atS (atS (atS at0)))) (by kernel_rfl) (by kernel_rfl) (by kernel_rfl) (by kernel_rfl) (fun _ _ _ h => h) rfl ?y4_5 HS ?r4_5
                case y4_5 => intro wx hx; obtain ⟨h1, h2, h3⟩ := hx; go_simp; try (with_reducible rfl)
                simp only [Act.put, List.setIfInBounds_toArray, List.set_cons_zero, List.set_cons_succ]
                refine anyL_take (i := 5) (v := ?v5_6) (atS (atS (atS (atS (atS at0))))) (by kernel_rfl) (by kernel_rfl) (by kernel_rfl) (by kernel_rfl) (fun _ _ _ h => h) rfl ?y5_6 HS ?r5_6
                case y5_6 => intro wx hx; obtain ⟨h1, h2, h3⟩ := hx; go_simp; try (with_reducible rfl)
                simp only [Act.put, List.setIfInBounds_toArray, List.set_cons_zero, List.set_cons_succ]
                refine anyL_take (i := 6) (v := ?v6_7) (atS (atS (atS (atS (atS (atS at0)))))) (by kernel_rfl) (by kernel_rfl) (by kernel_rfl) (by kernel_rfl) (fun _ _ _ h => h) rfl ?y6_7 HS ?r6_7
                case y6_7 => intro wx hx; obtain ⟨h1, h2, h3⟩ := hx; go_simp; try (with_reducible rfl)
                simp only [Act.put, List.setIfInBounds_toArray, List.set_cons_zero, List.set_cons_succ]
                refine anyL_take (i := 7) (v := ?v7_8) (atS (atS (atS (atS (atS (atS (atS at0))))))) (by kernel_rfl) (by kernel_rfl) (by kernel_rfl) (by kernel_rfl) (fun _ _ _ h => h) rfl ?y7_8 HS ?r7_8
                case y7_8 => intro wx hx; obtain ⟨h1, h2, h3⟩ := hx; go_simp; try (with_reducible rfl)
                simp only [Act.put, List.setIfInBounds_toArray, List.set_cons_zero, List.set_cons_succ]
                refine anyL_take (i := 8) (v := ?v8_9) (atS (atS (atS (atS (atS (atS (atS (atS at0)))))))) (by kernel_rfl) (by kernel_rfl) (by kernel_rfl) (by kernel_rfl) (fun _ _ _ h => h) rfl ?y8_9 HS ?r8_9
                case y8_9 => intro wx hx; obtain ⟨h1, h2, h3⟩ := hx; go_simp; try (with_reducible rfl)
                simp only [Act.put, List.setIfInBounds_toArray, List.set_cons_zero, List.set_cons_succ]
                refine anyL_take (i := 9) (v := ?v9_10) (atS (atS (atS (atS (atS (atS (atS (atS (atS at0))))))))) (by kernel_rfl) (by kernel_rfl) (by kernel_rfl) (by kernel_rfl) (fun _ _ _ h => h) rfl ?y9_10 HS ?r9_10
                case y9_10 => intro wx hx; obtain ⟨h1, h2, h3⟩ := hx; go_simp; try (with_reducible rfl)
                simp only [Act.put, List.setIfInBounds_toArray, List.set_cons_zero, List.set_cons_succ]
                refine anyL_take (i := 10) (v := ?v10_11) (atS (atS (atS (atS (atS (atS (atS (atS (atS (atS at0)))))))))) (by kernel_rfl) (by kernel_rfl) (by kernel_rfl) (by kernel_rfl) (fun _ _ _ h => h) rfl ?y10_11 HS ?r10_11
                case y10_11 => intro wx hx; obtain ⟨h1, h2, h3⟩ := hx; go_simp; try (with_reducible rfl)
                simp only [Act.put, List.setIfInBounds_toArray, List.set_cons_zero, List.set_cons_succ]
                refine anyL_take (i := 11) (v := ?v11_12) (atS (atS (atS (atS (atS (atS (atS (atS (atS (atS (atS at0))))))))))) (by kernel_rfl) (by kernel_rfl) (by kernel_rfl) (by kernel_rfl) (fun _ _ _ h => h) rfl ?y11_12 HS ?r11_12
                case y11_12 => intro wx hx; obtain ⟨h1, h2, h3⟩ := hx; go_simp; try (with_reducible rfl)
                simp only [Act.put, List.setIfInBounds_toArray, List.set_cons_zero, List.set_cons_succ]
                refine anyL_take (i := 12) (v := ?v12_13) (atS (atS (atS (atS (atS (atS (atS (atS (atS (atS (atS (atS at0)))))))))))) (by kernel_rfl) (by kernel_rfl) (by kernel_rfl) (by kernel_rfl) (fun _ _ _ h => h) rfl ?y12_13 HS ?r12_13
                case y12_13 => intro wx hx; obtain ⟨h1, h2, h3⟩ := hx; go_simp; try (with_reducible rfl)
                simp only [Act.put, List.setIfInBounds_toArray, List.set_cons_zero, List.set_cons_succ]
                refine anyL_one (i := 13) (atS (atS (atS (atS (atS (atS (atS (atS (atS (atS (atS (atS (atS at0))))))))))))) (by kernel_rfl) rfl (fun K hK => ?_)
                go_simp
                refine (longer_any A (D + 1) _).mono ?_
                rintro e w5 ⟨rfl, rfl⟩
                refine hK _ _ (.inr HS) ?_
                try simp only [Act.put, List.setIfInBounds_toArray, List.set_cons_zero, List.set_cons_succ]
                refine anyL_take (i := 14) (v := ?v14_14) (atS (atS (atS (atS (atS (atS (atS (atS (atS (atS (atS (atS (atS (atS at0)))))))))))))) (by kernel_rfl) (by kernel_rfl) (by kernel_rfl) (by kernel_rfl) (fun _ _ _ h => h) rfl ?y14_14 HS ?r14_14
                case y14_14 => intro wx hx; obtain ⟨h1, h2, h3⟩ := hx; go_simp; try (with_reducible rfl)
                simp only [Act.put, List.setIfInBounds_toArray, List.set_cons_zero, List.set_cons_succ]
                refine anyL_one (i := 15) (atS (atS (atS (atS (atS (atS (atS (atS (atS (atS (atS (atS (atS (atS (atS at0))))))))))))))) (by kernel_rfl) rfl (fun K hK => ?_)
                go_simp
                refine hK _ _ (.inl rfl) (anyL_done (by kernel_rfl) (NoPanic.normal ?_))
                try simp only [Act.put, List.setIfInBounds_toArray, List.set_cons_zero, List.set_cons_succ]
                clear HS c4 f4
                go_wp2
                go_roundw
                case rel =>
                  first
                    | exact ⟨j + 1, by omega, by omega, _, HN2, HB2⟩
                    | exact ⟨j + 1, _, by omega, by go_num, HN2, HB2, X2, Y2⟩
                case measure => simp [intOf]; omega
              · have hnl : ¬ (j : Int) < (L : Int) := by omega
                have HN5 : Hid (LenL n (addW l (out.take (k + 1)) (begD z)) ns) := by
                  have h9 := hns.out
                  rw [show j = ar.length by rw [HL.out]; omega, List.take_length] at h9
                  show LenL _ _ _
                  rw [HSU.out]
                  exact h9
                go_wp2
                go_roundw
                case rel => exact ⟨k + 1, ns, by omega, by go_num, HN5, hblk, hbx, hb⟩
                case measure => simp [intOf]; omega
        · have hnl : ¬ (k : Int) < (n : Int) := by omega
          have HN5 : Hid (LenL n (addW l out (begD z)) ns) := by
            have h9 := hns.out
            rw [show k = out.length by rw [HOL.out.2, HN.out]; omega, List.take_length] at h9
            exact h9
          have HNU : Hid (Nums wr (.slice (some ⟨w.heap.size + 1, 0, none⟩) n n) ns) := by have h9 := nums_block (cap := n) hblk.out; rw [hns.out.1] at h9; exact h9
          go_wp2
          go_ret
          exact ⟨_, rfl, ⟨ns, HNU.out, HN5.out⟩, hb.out⟩
set_option maxRecDepth 100000 in
set_option maxHeartbeats 3200000 in
theorem steps_anyP (z : Int) (vs : Value) (l : List St) (vo : Value) (out : List Int) (w : World) (h : Mach w (.agg #[.int .i64 z, vs]) (z, l)) (hr : faultM (z, l) = 0) (ho : Nums w vo out) (hO : OrderL l out) (hz0 : 0 ≤ z) :
    Calls Try.prog 38 #[.agg #[.int .i64 z, vs], vo] w fun e w' => ∃ v', e = .returned v' ∧ (∃ ns, Nums w' v' ns ∧ LenL l.length (addW l out (begD z)) ns) ∧ Below w.heap.size w w' := by
  have hz := (faultM_zero hr).2
  simp only [rangeB, Bool.and_eq_true, inB, decide_eq_true_eq] at hz
  have hz1 : -1 ≤ z := hz.1.1
  have hz2 : z < (l.length : Int) := by omega
  clear hz
  obtain ⟨vs', hvs, hS⟩ := h
  simp only [Value.agg.injEq, Array.mk.injEq, List.cons.injEq, and_true, true_and] at hvs
  subst hvs
  obtain ⟨a, cap, rfl, hc⟩ := hS.get
  have HC : Hid (∀ j, j < l.length → ∃ b off va, a = some ⟨b, off, none⟩ ∧ b < w.heap.size ∧ w.cell? ⟨b, off + j * 2, none⟩ = some (.int .i64 (el l j).1) ∧ w.cell? ⟨b, off + j * 2 + 1, none⟩ = some va ∧ Arcs w va (el l j).2) := hc
  have h60 := (right_size hr).1
  have hto : ∀ q, q < l.length → ∀ a ∈ (el l q).2, ∃ t : Nat, a.2.2.2 = (t : Int) ∧ t < l.length := fun q hq a ha => by
    have h9 := List.all_eq_true.1 (right_st hr hq).2 a ha
    simp only [arcB, inB, Bool.and_eq_true, decide_eq_true_eq] at h9
    exact ⟨a.2.2.2.toNat, by omega, by omega⟩
  have HTO : Hid (∀ q, q < l.length → ∀ a ∈ (el l q).2, ∃ t : Nat, a.2.2.2 = (t : Int) ∧ t < l.length) := hto
  have HSZ : Hid (∀ q, q < l.length → (el l q).2.length ≤ 400) := fun q hq => Nat.le_trans (arcs_len hq) (right_size hr).2
  have HOL : Hid (OrderL l out) := hO
  have HWB : Hid (∀ i, i ≤ out.length → WayB (addW l (out.take i) (begD z)) (i : Int)) := way_bound hO hto z
  have HAF : Hid (∀ i q : Nat, i < out.length → el out i = (q : Int) → ∀ a ∈ (el l q).2, a.2.2.2.toNat ≠ q ∧ a.2.2.2.toNat < l.length) := fun i q hi hq => arc_facts hO hto hi hq
  obtain ⟨xa, ca, hva, hca⟩ := ho.get
  rw [hO.2] at hva hca
  subst hva
  have HCA : Hid (∀ j, j < l.length → ∃ b off, xa = some ⟨b, off, none⟩ ∧ b < w.heap.size ∧ w.cell? ⟨b, off + j, none⟩ = some (.int .i64 (el out j))) := hca
  clear hS hc hr ho hca hO hto
  generalize hn : l.length = n at *
  have HN : Hid (l.length = n) := hn
  clear hn
  have hmk := run_nums n (by omega)
  go_enter Try.func38, Try.ntmps38
  go_wp2
  go_loopw [17] (fun i wr => ∃ (k : Nat) (ns : List Int), k ≤ n ∧ i = .int .i64 k ∧ Hid (NoneL n k ns) ∧ Hid (Blk wr (w.heap.size + 1) (ns.map (Value.int .i64)).toArray 3) ∧ Hid (Blk wr w.heap.size #[.int .i64 z, .slice a n cap] 24) ∧ Hid (Below w.heap.size w wr)) (fun i _ => n - (intOf i).toNat)
  case atStart =>
    have hmd : Blk ((w.alloc (.cells #[.int .i64 z, .slice a n cap] 24)).alloc (.cells ((List.replicate n (0 : Int)).map (Value.int .i64)).toArray 3)) (w.heap.size + 1) ((List.replicate n (0 : Int)).map (Value.int .i64)).toArray 3 := by
      have h9 := Blk.made (w.alloc (.cells #[.int .i64 z, .slice a n cap] 24)) ((List.replicate n (0 : Int)).map (Value.int .i64)).toArray 3
      simp only [World.size_alloc] at h9
      exact h9
    have e1 : ((List.replicate n (0 : Int)).map (Value.int .i64)).toArray = Array.replicate n (Value.int .i64 0) := by simp
    exact ⟨0, List.replicate n 0, Nat.zero_le _, rfl, NoneL.start n, by (show Blk _ _ _ _); rw [e1] at hmd ⊢; exact hmd, (Blk.made w _ _).alloc _, ((Below.refl _ _).alloc (Nat.le_refl _) _).alloc (by simp) _⟩
  case round =>
    obtain ⟨k, ns, hk, rfl, hns, hblk, hbx, hb⟩ := hrel
    by_cases hkn : k < n
    · have y0 := num_cell hblk.out (j := k) (by rw [hns.out.1]; exact hkn)
      have y1 := hblk.out.fz k
      have k0 : (0 : Int) ≤ (k : Int) := by omega
      have k1 : (k : Int) < (n : Int) := by omega
      have HN2 : Hid (NoneL n (k + 1) (ns.set k (-1))) := hns.out.set hkn
      have B2 : Hid (Blk (wr.setCell ⟨w.heap.size + 1, k, none⟩ (.int .i64 (-1))) (w.heap.size + 1) ((ns.set k (-1)).map (Value.int .i64)).toArray 3) := by have h9 := hblk.out.set k (.int .i64 (-1)); rw [set_num] at h9; exact h9
      have X2 : Blk (wr.setCell ⟨w.heap.size + 1, k, none⟩ (.int .i64 (-1))) w.heap.size #[.int .i64 z, .slice a n cap] 24 := hbx.out.setO _ _ (by show w.heap.size ≠ w.heap.size + 1; omega)
      have Y2 : Below w.heap.size w (wr.setCell ⟨w.heap.size + 1, k, none⟩ (.int .i64 (-1))) := hb.out.setCell (by show w.heap.size ≤ w.heap.size + 1; omega) _
      go_wp2
      go_roundw
      case rel =>
        first
          | exact ⟨k + 1, by omega, by omega, _, HN2, B2⟩
          | exact ⟨k + 1, _, by omega, by go_num, HN2, B2, X2, Y2⟩
      case measure => simp [intOf]; omega
    · have hnl : ¬ (k : Int) < (n : Int) := by omega
      have HNL : Hid (NoneL n n ns) := by have h9 := hns.out; rw [show k = n by omega] at h9; exact h9
      obtain ⟨s, rfl⟩ : ∃ s : Nat, z = (s : Int) := ⟨z.toNat, by omega⟩
      have hsn : s < n := by omega
      have HST : Hid (LenL n (addW l (out.take 0) (begD (s : Int))) (ns.set s 0)) := (HNL.out.lens.set hsn 0).congr (fun j _ => by
        show begD (s : Int) j = _
        unfold begD updD
        by_cases e : j = s
        · rw [if_pos (by omega), if_pos e]
        · rw [if_neg (by omega), if_neg e])
      have B0 : Hid (Blk (wr.setCell ⟨w.heap.size + 1, s, none⟩ (.int .i64 0)) (w.heap.size + 1) ((ns.set s 0).map (Value.int .i64)).toArray 3) := by have h9 := hblk.out.set s (.int .i64 0); rw [set_num] at h9; exact h9
      have X0 : Hid (Blk (wr.setCell ⟨w.heap.size + 1, s, none⟩ (.int .i64 0)) w.heap.size #[.int .i64 (s : Int), .slice a n cap] 24) := hbx.out.setO _ _ (by show w.heap.size ≠ w.heap.size + 1; omega)
      have Y0 : Hid (Below w.heap.size w (wr.setCell ⟨w.heap.size + 1, s, none⟩ (.int .i64 0))) := hb.out.setCell (by show w.heap.size ≤ w.heap.size + 1; omega) _
      have y0 := num_cell hblk.out (j := s) (by rw [hns.out.1]; exact hsn)
      have y1 := hblk.out.fz s
      have s0 : (0 : Int) ≤ (s : Int) := by omega
      have s1 : (s : Int) < (n : Int) := by omega
      have c0 := hbx.out.cell 0 (v := .int .i64 (s : Int)) rfl
      clear HNL hns hblk hbx hb
      go_wp2
      clear c0
      go_loopw [33] (fun i wr => ∃ (k : Nat) (ns : List Int), k ≤ n ∧ i = .int .i64 k ∧ Hid (LenL n (addW l (out.take k) (begD (s : Int))) ns) ∧ Hid (Blk wr (w.heap.size + 1) (ns.map (Value.int .i64)).toArray 3) ∧ Hid (Blk wr w.heap.size #[.int .i64 (s : Int), .slice a n cap] 24) ∧ Hid (Below w.heap.size w wr)) (fun i _ => n - (intOf i).toNat)
      case atStart => exact ⟨0, _, Nat.zero_le _, rfl, HST, B0, X0, Y0⟩
      case round =>
        clear HST B0 X0 Y0
        obtain ⟨k, ns, hk, rfl, hns, hblk, hbx, hb⟩ := hrel
        by_cases hkn : k < n
        · obtain ⟨bo, oo, rfl, hbol, go⟩ := HCA.out k hkn
          have go := (hb.out.cell (p := ⟨bo, oo + k, none⟩) hbol).trans go
          obtain ⟨q, hq, hqn, _⟩ := HOL.out.at (i := k) (by rw [HOL.out.2, HN.out]; exact hkn)
          have HAQ : Hid (∀ a ∈ (el l q).2, a.2.2.2.toNat ≠ q) := fun c hc => (HAF.out k q (by rw [HOL.out.2, HN.out]; exact hkn) hq c hc).1
          have HSU : Hid (addW l (out.take (k + 1)) (begD (s : Int)) = wayQ l q (addW l (out.take k) (begD (s : Int)))) := addW_take l (by rw [HOL.out.2, HN.out]; exact hkn) hq _
          have hwb := HWB.out k (by rw [HOL.out.2, HN.out]; exact hk) q
          rw [hq] at go
          rw [HN.out] at hqn
          obtain ⟨b, off, va, rfl, hbl, g0, g1, gA⟩ := HC.out q hqn
          obtain ⟨a2, cap2, hva, hga⟩ := gA.get
          subst hva
          have g1 := (hb.out.cell (p := ⟨b, off + q * 2 + 1, none⟩) hbl).trans g1
          have HGA : Hid (∀ j, j < (el l q).2.length → ∃ b off, a2 = some ⟨b, off, none⟩ ∧ b < w.heap.size ∧ w.cell? ⟨b, off + j * 4, none⟩ = some (.int .i64 (el (el l q).2 j).1) ∧ w.cell? ⟨b, off + j * 4 + 1, none⟩ = some (.int .i64 (el (el l q).2 j).2.1) ∧ w.cell? ⟨b, off + j * 4 + 2, none⟩ = some (.int .i64 (el (el l q).2 j).2.2.1) ∧ w.cell? ⟨b, off + j * 4 + 3, none⟩ = some (.int .i64 (el (el l q).2 j).2.2.2)) := hga
          have HAL : Hid (∀ a ∈ (el l q).2, ∃ t : Nat, a.2.2.2 = (t : Int) ∧ t < n) := HTO.out q hqn
          have hL4 := HSZ.out q hqn
          have c1 := hbx.out.cell 1 (v := .slice (some ⟨b, off, none⟩) n cap) rfl
          have yq := num_cell hblk.out (j := q) (by rw [hns.out.1]; exact hqn)
          rw [hns.out.2 q hqn] at yq
          have hk0 : (0 : Int) ≤ (k : Int) := by omega
          have hk1 : (k : Int) < (n : Int) := by omega
          have hq0 : (0 : Int) ≤ (q : Int) := by omega
          have hq1 : (q : Int) < (n : Int) := by omega
          clear gA hga g0 hq
          by_cases hno : addW l (out.take k) (begD (s : Int)) q = -1
          · have HN5 : Hid (LenL n (addW l (out.take (k + 1)) (begD (s : Int))) ns) := by
              show LenL _ _ _
              rw [HSU.out, wayQ, if_pos hno]
              exact hns.out
            rw [hno] at yq
            clear hno hns HSU hwb
            go_wp2
            go_roundw
            case rel => exact ⟨k + 1, ns, by omega, by go_num, HN5, hblk, hbx, hb⟩
            case measure => simp [intOf]; omega
          · have HSU : Hid (addW l (out.take (k + 1)) (begD (s : Int)) = addM q (el l q).2 (addW l (out.take k) (begD (s : Int)))) := by show _ = _; rw [HSU.out, wayQ, if_neg hno]
            generalize addW l (out.take k) (begD (s : Int)) = X at *
            generalize (el l q).2 = ar at *
            generalize hL : ar.length = L at *
            have HL : Hid (ar.length = L) := hL
            clear hL
            have HXQ : Hid (∀ j, addM q (ar.take j) X q = X q) := fun j => addM_same (fun c hc => HAQ.out c (List.mem_of_mem_take hc)) X
            generalize hxq : X q = D at *
            have hdn : ¬ D = -1 := hno
            have hdb : (D == -1) = false := by simp [hdn]
            clear hxq
            go_wp2
            go_loopw [49] (fun i wr => ∃ (j : Nat) (ns : List Int), j ≤ L ∧ i = .int .i64 j ∧ Hid (LenL n (addM q (ar.take j) X) ns) ∧ Hid (Blk wr (w.heap.size + 1) (ns.map (Value.int .i64)).toArray 3) ∧ Hid (Blk wr w.heap.size #[.int .i64 (s : Int), .slice (some ⟨b, off, none⟩) n cap] 24) ∧ Hid (Below w.heap.size w wr)) (fun i _ => L - (intOf i).toNat)
            case atStart => exact ⟨0, ns, Nat.zero_le _, rfl, hns, hblk, hbx, hb⟩
            case round =>
              clear hns hblk hbx hb c1 go yq
              obtain ⟨j, ns, hj, rfl, hns, hblk, hbx, hb⟩ := hrel
              by_cases hjL : j < L
              · obtain ⟨b3, off3, rfl, hb3l, e0, e1, e2, e3⟩ := HGA.out j hjL
                have e0 := (hb.out.cell (p := ⟨b3, off3 + j * 4, none⟩) hb3l).trans e0
                have e1 := (hb.out.cell (p := ⟨b3, off3 + j * 4 + 1, none⟩) hb3l).trans e1
                have e2 := (hb.out.cell (p := ⟨b3, off3 + j * 4 + 2, none⟩) hb3l).trans e2
                have e3 := (hb.out.cell (p := ⟨b3, off3 + j * 4 + 3, none⟩) hb3l).trans e3
                obtain ⟨t, ht, htn⟩ := HAL.out (el ar j) (el_mem (by rw [HL.out]; exact hjL))
                have HT : Hid (addM q (ar.take (j + 1)) X = updD (addM q (ar.take j) X) t (max (addM q (ar.take j) X t) (addM q (ar.take j) X q + 1))) := addM_take q (by rw [HL.out]; exact hjL) ht X
                have hYq := HXQ.out j
                rw [ht] at e3
                generalize (el ar j).1 = x0 at *
                generalize (el ar j).2.1 = x1 at *
                generalize (el ar j).2.2.1 = x2 at *
                clear ht
                generalize hY : addM q (ar.take j) X = Y at *
                clear hY
                have ht9 := hns.out.2 t htn
                have hq9 := hns.out.2 q hqn
                rw [hYq] at hq9
                have HN2 : Hid (LenL n (addM q (ar.take (j + 1)) X) (ns.set t (max (Y t) (D + 1)))) := by
                  show LenL _ _ _
                  rw [HT.out, hYq]
                  exact hns.out.set htn _
                generalize Y t = A at *
                have hj0 : (0 : Int) ≤ (j : Int) := by omega
                have hj1 : (j : Int) < (L : Int) := by omega
                have ht0 : (0 : Int) ≤ (t : Int) := by omega
                have ht1 : (t : Int) < (n : Int) := by omega
                have kw : IntKind.i64.wrap (D + 1) = D + 1 := wrapI (by omega) (by omega)
                have hxl : w.heap.size + 1 < wr.heap.size := hblk.out.lt
                have B1 : Hid (Blk (wr.alloc (.cells #[.int .i64 x0, .int .i64 x1, .int .i64 x2, .int .i64 (t : Int)] 60)) (w.heap.size + 1) (ns.map (Value.int .i64)).toArray 3) := hblk.out.alloc _
                have A1 : Hid (Blk (wr.alloc (.cells #[.int .i64 x0, .int .i64 x1, .int .i64 x2, .int .i64 (t : Int)] 60)) wr.heap.size #[.int .i64 x0, .int .i64 x1, .int .i64 x2, .int .i64 (t : Int)] 60) := Blk.made _ _ _
                have X1 : Hid (Blk (wr.alloc (.cells #[.int .i64 x0, .int .i64 x1, .int .i64 x2, .int .i64 (t : Int)] 60)) w.heap.size #[.int .i64 (s : Int), .slice (some ⟨b, off, none⟩) n cap] 24) := hbx.out.alloc _
                have Y1 : Hid (Below w.heap.size w (wr.alloc (.cells #[.int .i64 x0, .int .i64 x1, .int .i64 x2, .int .i64 (t : Int)] 60))) := hb.out.alloc hb.out.size _
                have HLN : Hid (ns.length = n) := hns.out.1
                clear hns hblk hbx hb
                go_wp2
                generalize hW : wr.alloc (.cells #[.int .i64 x0, .int .i64 x1, .int .i64 x2, .int .i64 (t : Int)] 60) = W1 at *
                clear hW
                have HS : HeldJ (w.heap.size + 1) wr.heap.size t q A D W1.drew := ⟨A1.out.drew.cell 3 rfl, by rw [← ht9]; exact num_cell B1.out.drew (by rw [HLN.out]; exact htn), by rw [← hq9]; exact num_cell B1.out.drew (by rw [HLN.out]; exact hqn)⟩
                have HB2 : Hid (Blk (W1.drew.setCell ⟨w.heap.size + 1, t, none⟩ (.int .i64 (max A (D + 1)))) (w.heap.size + 1) ((ns.set t (max A (D + 1))).map (Value.int .i64)).toArray 3) := by have h9 := B1.out.drew.set t (.int .i64 (max A (D + 1))); rw [set_num] at h9; exact h9
                have X2 : Hid (Blk (W1.drew.setCell ⟨w.heap.size + 1, t, none⟩ (.int .i64 (max A (D + 1)))) w.heap.size #[.int .i64 (s : Int), .slice (some ⟨b, off, none⟩) n cap] 24) := X1.out.drew.setO _ _ (by show w.heap.size ≠ w.heap.size + 1; omega)
                have Y2 : Hid (Below w.heap.size w (W1.drew.setCell ⟨w.heap.size + 1, t, none⟩ (.int .i64 (max A (D + 1))))) := Y1.out.drew.setCell (by show w.heap.size ≤ w.heap.size + 1; omega) _
                have c4 : W1.drew.cell? ⟨w.heap.size + 1, t, none⟩ = some (.int .i64 A) := HS.2.1
                have f4 := B1.out.drew.fz t
                refine region_anyL (HeldJ (w.heap.size + 1) wr.heap.size t q A D) 15 (by kernel_rfl) ?_
                generalize W1.drew = W2 at *
                refine anyL_take (i := 0) (v := ?v0_15) at0 (by kernel_rfl) (by kernel_rfl) (by kernel_rfl) (by kernel_rfl) (fun _ _ _ h => h) rfl ?y0_15 HS ?r0_15
                case y0_15 => intro wx hx; obtain ⟨h1, h2, h3⟩ := hx; go_simp; try (with_reducible rfl)
                simp only [Act.put, List.setIfInBounds_toArray, List.set_cons_zero, List.set_cons_succ]
                refine anyL_take (i := 1) (v := ?v1_16) (atS at0) (by kernel_rfl) (by kernel_rfl) (by kernel_rfl) (by kernel_rfl) (fun _ _ _ h => h) rfl ?y1_16 HS ?r1_16
                case y1_16 => intro wx hx; obtain ⟨h1, h2, h3⟩ := hx; go_simp; try (with_reducible rfl)
                simp only [Act.put, List.setIfInBounds_toArray, List.set_cons_zero, List.set_cons_succ]
                refine anyL_take (i := 2) (v := ?v2_17) (atS (atS at0)) (by kernel_rfl) (by kernel_rfl) (by kernel_rfl) (by kernel_rfl) (fun _ _ _ h => h) rfl ?y2_17 HS ?r2_17
                case y2_17 => intro wx hx; obtain ⟨h1, h2, h3⟩ := hx; go_simp; try (with_reducible rfl)
                simp only [Act.put, List.setIfInBounds_toArray, List.set_cons_zero, List.set_cons_succ]
                refine anyL_take (i := 3) (v := ?v3_18) (atS (atS (atS at0))) (by kernel_rfl) (by kernel_rfl) (by kernel_rfl) (by kernel_rfl) (fun _ _ _ h => h) rfl ?y3_18 HS ?r3_18
                case y3_18 => intro wx hx; obtain ⟨h1, h2, h3⟩ := hx; go_simp; try (with_reducible rfl)
                simp only [Act.put, List.setIfInBounds_toArray, List.set_cons_zero, List.set_cons_succ]
                refine anyL_take (i := 4) (v := ?v4_19) (atS (atS (atS (atS at0)))) (by kernel_rfl) (by kernel_rfl) (by kernel_rfl) (by kernel_rfl) (fun _ _ _ h => h) rfl ?y4_19 HS ?r4_19
                case y4_19 => intro wx hx; obtain ⟨h1, h2, h3⟩ := hx; go_simp; try (with_reducible rfl)
                simp only [Act.put, List.setIfInBounds_toArray, List.set_cons_zero, List.set_cons_succ]
                refine anyL_take (i := 5) (v := ?v5_20) (atS (atS (atS (atS (atS at0))))) (by kernel_rfl) (by kernel_rfl) (by kernel_rfl) (by kernel_rfl) (fun _ _ _ h => h) rfl ?y5_20 HS ?r5_20
                case y5_20 => intro wx hx; obtain ⟨h1, h2, h3⟩ := hx; go_simp; try (with_reducible rfl)
                simp only [Act.put, List.setIfInBounds_toArray, List.set_cons_zero, List.set_cons_succ]
                refine anyL_take (i := 6) (v := ?v6_21) (atS (atS (atS (atS (atS (atS at0)))))) (by kernel_rfl) (by kernel_rfl) (by kernel_rfl) (by kernel_rfl) (fun _ _ _ h => h) rfl ?y6_21 HS ?r6_21
                case y6_21 => intro wx hx; obtain ⟨h1, h2, h3⟩ := hx; go_simp; try (with_reducible rfl)
                simp only [Act.put, List.setIfInBounds_toArray, List.set_cons_zero, List.set_cons_succ]
                refine anyL_take (i := 7) (v := ?v7_22) (atS (atS (atS (atS (atS (atS (atS at0))))))) (by kernel_rfl) (by kernel_rfl) (by kernel_rfl) (by kernel_rfl) (fun _ _ _ h => h) rfl ?y7_22 HS ?r7_22
                case y7_22 => intro wx hx; obtain ⟨h1, h2, h3⟩ := hx; go_simp; try (with_reducible rfl)
                simp only [Act.put, List.setIfInBounds_toArray, List.set_cons_zero, List.set_cons_succ]
                refine anyL_take (i := 8) (v := ?v8_23) (atS (atS (atS (atS (atS (atS (atS (atS at0)))))))) (by kernel_rfl) (by kernel_rfl) (by kernel_rfl) (by kernel_rfl) (fun _ _ _ h => h) rfl ?y8_23 HS ?r8_23
                case y8_23 => intro wx hx; obtain ⟨h1, h2, h3⟩ := hx; go_simp; try (with_reducible rfl)
                simp only [Act.put, List.setIfInBounds_toArray, List.set_cons_zero, List.set_cons_succ]
                refine anyL_take (i := 9) (v := ?v9_24) (atS (atS (atS (atS (atS (atS (atS (atS (atS at0))))))))) (by kernel_rfl) (by kernel_rfl) (by kernel_rfl) (by kernel_rfl) (fun _ _ _ h => h) rfl ?y9_24 HS ?r9_24
                case y9_24 => intro wx hx; obtain ⟨h1, h2, h3⟩ := hx; go_simp; try (with_reducible rfl)
                simp only [Act.put, List.setIfInBounds_toArray, List.set_cons_zero, List.set_cons_succ]
                refine anyL_take (i := 10) (v := ?v10_25) (atS (atS (atS (atS (atS (atS (atS (atS (atS (atS at0)))))))))) (by kernel_rfl) (by kernel_rfl) (by kernel_rfl) (by kernel_rfl) (fun _ _ _ h => h) rfl ?y10_25 HS ?r10_25
                case y10_25 => intro wx hx; obtain ⟨h1, h2, h3⟩ := hx; go_simp; try (with_reducible rfl)
                simp only [Act.put, List.setIfInBounds_toArray, List.set_cons_zero, List.set_cons_succ]
                refine anyL_take (i := 11) (v := ?v11_26) (atS (atS (atS (atS (atS (atS (atS (atS (atS (atS (atS at0))))))))))) (by kernel_rfl) (by kernel_rfl) (by kernel_rfl) (by kernel_rfl) (fun _ _ _ h => h) rfl ?y11_26 HS ?r11_26
                case y11_26 => intro wx hx; obtain ⟨h1, h2, h3⟩ := hx; go_simp; try (with_reducible rfl)
                simp only [Act.put, List.setIfInBounds_toArray, List.set_cons_zero, List.set_cons_succ]
                refine anyL_take (i := 12) (v := ?v12_27) (atS (atS (atS (atS (atS (atS (atS (atS (atS (atS (atS (atS at0)))))))))))) (by kernel_rfl) (by kernel_rfl) (by kernel_rfl) (by kernel_rfl) (fun _ _ _ h => h) rfl ?y12_27 HS ?r12_27
                case y12_27 => intro wx hx; obtain ⟨h1, h2, h3⟩ := hx; go_simp; try (with_reducible rfl)
                simp only [Act.put, List.setIfInBounds_toArray, List.set_cons_zero, List.set_cons_succ]
                refine anyL_one (i := 13) (atS (atS (atS (atS (atS (atS (atS (atS (atS (atS (atS (atS (atS at0))))))))))))) (by kernel_rfl) rfl (fun K hK => ?_)
                go_simp
                refine (longer_any A (D + 1) _).mono ?_
                rintro e w5 ⟨rfl, rfl⟩
                refine hK _ _ (.inr HS) ?_
                try simp only [Act.put, List.setIfInBounds_toArray, List.set_cons_zero, List.set_cons_succ]
                refine anyL_take (i := 14) (v := ?v14_28) (atS (atS (atS (atS (atS (atS (atS (atS (atS (atS (atS (atS (atS (atS at0)))))))))))))) (by kernel_rfl) (by kernel_rfl) (by kernel_rfl) (by kernel_rfl) (fun _ _ _ h => h) rfl ?y14_28 HS ?r14_28
                case y14_28 => intro wx hx; obtain ⟨h1, h2, h3⟩ := hx; go_simp; try (with_reducible rfl)
                simp only [Act.put, List.setIfInBounds_toArray, List.set_cons_zero, List.set_cons_succ]
                refine anyL_one (i := 15) (atS (atS (atS (atS (atS (atS (atS (atS (atS (atS (atS (atS (atS (atS (atS at0))))))))))))))) (by kernel_rfl) rfl (fun K hK => ?_)
                go_simp
                refine hK _ _ (.inl rfl) (anyL_done (by kernel_rfl) (NoPanic.normal ?_))
                try simp only [Act.put, List.setIfInBounds_toArray, List.set_cons_zero, List.set_cons_succ]
                clear HS c4 f4
                go_wp2
                go_roundw
                case rel =>
                  first
                    | exact ⟨j + 1, by omega, by omega, _, HN2, HB2⟩
                    | exact ⟨j + 1, _, by omega, by go_num, HN2, HB2, X2, Y2⟩
                case measure => simp [intOf]; omega
              · have hnl : ¬ (j : Int) < (L : Int) := by omega
                have HN5 : Hid (LenL n (addW l (out.take (k + 1)) (begD (s : Int))) ns) := by
                  have h9 := hns.out
                  rw [show j = ar.length by rw [HL.out]; omega, List.take_length] at h9
                  show LenL _ _ _
                  rw [HSU.out]
                  exact h9
                go_wp2
                go_roundw
                case rel => exact ⟨k + 1, ns, by omega, by go_num, HN5, hblk, hbx, hb⟩
                case measure => simp [intOf]; omega
        · have hnl : ¬ (k : Int) < (n : Int) := by omega
          have HN5 : Hid (LenL n (addW l out (begD (s : Int))) ns) := by
            have h9 := hns.out
            rw [show k = out.length by rw [HOL.out.2, HN.out]; omega, List.take_length] at h9
            exact h9
          have HNU : Hid (Nums wr (.slice (some ⟨w.heap.size + 1, 0, none⟩) n n) ns) := by have h9 := nums_block (cap := n) hblk.out; rw [hns.out.1] at h9; exact h9
          go_wp2
          go_ret
          exact ⟨_, rfl, ⟨ns, HNU.out, HN5.out⟩, hb.out⟩
theorem steps_any (z : Int) (vs : Value) (l : List St) (vo : Value) (out : List Int) (w : World) (h : Mach w (.agg #[.int .i64 z, vs]) (z, l)) (hr : faultM (z, l) = 0) (ho : Nums w vo out) (hO : OrderL l out) :
    Calls Try.prog 38 #[.agg #[.int .i64 z, vs], vo] w fun e w' => ∃ v', e = .returned v' ∧ (∃ ns, Nums w' v' ns ∧ LenL l.length (addW l out (begD z)) ns) ∧ Below w.heap.size w w' := by
  by_cases hz0 : z < 0
  · exact steps_anyN z vs l vo out w h hr ho hO hz0
  · exact steps_anyP z vs l vo out w h hr ho hO (by omega)
end Go.Proofs.Ytfajkomajbhphaa.Wt
