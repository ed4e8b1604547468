/- The statement CertainAll: whatever numbers a machine without cycles is made of, there is always one that is certain, with no more paths, and the cheapest of them costs the same, for every input and without any condition (where the table of powers of ten that the standard library reads is as its text lays it: that is the card's tie). -/
import Derived.Test.YtfekmlblldhieaaGreatDoorCards
import Derived.Test.YtfekmlblldhieaaGreatDoorTie
import Derived.Test.YtfekmlblldhieaaGreatDoorMd
import Derived.Test.YtfekmlblldhieaaGreatDoorKj
import Derived.Test.YtfekmlblldhieaaGreatDoorKe
import Derived.Test.YtfekmlblldhieaaGreatDoorJ17w
import Derived.Test.YtfekmlblldhieaaGreatDoorYj
import Derived.Test.YtfekmlblldhieaaGreatDoorJ17I
import Derived.Test.YtfekmlblldhieaaGreatDoorJ17d
import Derived.Test.YtfekmlblldhieaaGreatDoorPlainTy
import Derived.Test.YtfekmlblldhieaaGreatDoorLo
import Derived.Lib.SmallJoins
import Derived.ChangeOld
import Derived.Below
import Derived.Deep.DeepHandedRow
import Derived.Stop.LaidErr
namespace Go.Proofs.YtfekmlblldhieaaGreatDoor.certainAll
open Go.ChangeShapes Go.WideShapes Go.ChangeAt Go.RowKit
open Go.Proofs.YtfekmlblldhieaaGreatDoor.Pl Go.Proofs.YtfekmlblldhieaaGreatDoor.Wt
set_option linter.unusedVariables false
set_option linter.unusedSimpArgs false

theorem own : ownKnob Tryz.prog.godebug = none := by kernel_rfl
theorem laidOut : laidOutB Tryz.prog = true := by kernel_rfl
theorem made_fourC (r : Rw) {q : Nat} (hq : q < (madeM r 4 false).2.length) : (el (madeM r 4 false).2 q).2.length ≤ 4 := made_fourG r 4 false hq
/-- The machine that is made leads forward. -/
theorem slim4 (r : Rw) : faultM (fwdM (madeM r 4 false)) = 0 ∧ Fwd (fwdM (madeM r 4 false)).2 ∧ (fwdM (madeM r 4 false)).1 = 0 ∧ 0 < (fwdM (madeM r 4 false)).2.length ∧ (fwdM (madeM r 4 false)).2.length ≤ 4 ∧ (∀ q, q < (fwdM (madeM r 4 false)).2.length → (el (fwdM (madeM r 4 false)).2 q).2.length ≤ 4) ∧ LowL 10 (fwdM (madeM r 4 false)).2 := by
  have hlen : (madeM r 4 false).2.length = sizeM r 4 := statesM_length _ _ _
  have hn : 0 < (madeM r 4 false).2.length ∧ (madeM r 4 false).2.length ≤ 4 := by rw [hlen]; unfold sizeM; omega
  have hfM := madeM_right r 4 (by omega) (by omega) false
  have hnin := made_nine r 4 false
  refine ⟨fwdM_fault hfM hn.1, ?_, rfl, by rw [fwdM_length]; exact hn.1, by rw [fwdM_length]; exact hn.2, fun q hq => ?_, fun s hs => ?_⟩
  · intro q hq a ha
    rw [fwdM_length] at hq
    rw [fwdM_el _ hq] at ha
    obtain ⟨b, _, rfl, h1⟩ := fwdR_mem ha
    obtain ⟨t, h2, h3, h4⟩ := fwdA_to h1 b
    exact ⟨t, h2, h3, by rw [fwdM_length]; exact h4⟩
  · rw [fwdM_length] at hq
    rw [fwdM_el _ hq]
    exact Nat.le_trans (fwdR_le _ _ _) (made_fourC r hq)
  · obtain ⟨q, hq, rfl⟩ := mem_el hs
    rw [fwdM_length] at hq
    rw [fwdM_el _ hq]
    have h9 := hnin (el (madeM r 4 false).2 q) (el_mem hq)
    refine ⟨fun hne => by have := h9.1 hne; simp only at this ⊢; omega, fun a ha => ?_⟩
    obtain ⟨b, hb, rfl, _⟩ := fwdR_mem ha
    have := h9.2 b hb
    simp only [fwdA]
    omega
def HeldMx (V : Nat) (vs : Value) (g o : Nat) (va : Value) (ga i : Nat) (x : Int) (w : World) : Prop := w.cell? ⟨V, 1, none⟩ = some vs ∧ w.cell? ⟨g, o, none⟩ = some va ∧ w.cell? ⟨ga, i, none⟩ = some (.int .i64 x)
/-- What is held while labels are set. -/
structure MxW (w wr : World) (B V : Nat) (vs : Value) (l : List St) : Prop where
  var : Blk wr V #[.int .i64 0, vs] 27
  sts : OwnSts wr B vs l
  below : Below w.heap.size w wr
  hV : w.heap.size ≤ V
  hB : w.heap.size ≤ B
theorem MxW.drew {w wr : World} {B V : Nat} {vs : Value} {l : List St} (h : MxW w wr B V vs l) : MxW w wr.drew B V vs l :=
  ⟨h.var.drew, h.sts.laterB (Below.refl wr.heap.size wr).drew, h.below.drew, h.hV, h.hB⟩
set_option maxRecDepth 100000 in
set_option maxHeartbeats 6400000 in
theorem core (vx : Value) (rx : Rw) (w : World) (hx : RawV w vx rx ∧ okR rx ∧ wfR rx) (htab : Tab w) :
    Calls Tryz.prog 3 #[vx] w fun e w' => e = .returned (.bool true) ∧ Below w.heap.size w w' := by
  have HTB : Hid (Tab w) := htab
  clear htab
  obtain ⟨hx, hokx, hwfx⟩ := hx
  obtain ⟨s1, s2, s3, s4, s5, s6, s7⟩ := slim4 rx
  have h4 := mx_four s1 s3 s2 s4 s5 s6 s7
  have hin : ∀ q, q < (fwdM (madeM rx 4 false)).2.length → ∀ a ∈ (el (fwdM (madeM rx 4 false)).2 q).2, 0 ≤ a.1 := fun q hq a ha => by
    have h3 := (right_parts s1).2 (el (fwdM (madeM rx 4 false)).2 q) (el_mem hq)
    simp only [stB, Bool.and_eq_true, List.all_eq_true] at h3
    have h5 := h3.2 a ha
    simp only [arcB, inB, Bool.and_eq_true, decide_eq_true_eq] at h5
    omega
  have hemp := mx_emp _ hin
  obtain ⟨U, hU⟩ := cer_all h4 hemp
  have hz4 : 0 ≤ ((fwdM (madeM rx 4 false)).1, mxL (fwdM (madeM rx 4 false)).2).1 := by simp only; rw [s3]; decide
  have hlow4 : LowL 10 (mxL (fwdM (madeM rx 4 false)).2) := fun s hs => by
    obtain ⟨q, hq, rfl⟩ := mem_el hs
    rw [mxL_len] at hq
    rw [mxL_el hq]
    refine ⟨(s7 _ (el_mem hq)).1, fun a ha => ?_⟩
    obtain ⟨b, hb, rfl⟩ := List.mem_map.1 ha
    exact (s7 _ (el_mem hq)).2 b hb
  have hUc : CheapL U.2 := by
    rcases cer_two h4.right hz4 hemp (W := 10) (by omega) hlow4 with e | ⟨x, e, hc⟩
    · rw [hU] at e; simp at e
    · rw [hU] at e
      simp only [Prod.mk.injEq, and_true] at e
      rw [e]; exact hc
  obtain ⟨uf, up, u0⟩ := cer_right h4.right hz4 hU
  obtain ⟨hnc, hcnt⟩ := cer_cnt h4 hemp hU
  obtain ⟨M, hM⟩ : ∃ M, ((fwdM (madeM rx 4 false)).1, mxL (fwdM (madeM rx 4 false)).2) = M := ⟨_, rfl⟩
  have hM1 : M.1 = 0 := by rw [← hM]; exact s3
  have hM2 : M.2 = mxL (fwdM (madeM rx 4 false)).2 := by rw [← hM]
  rw [hM] at h4 hU hz4 hcnt
  have hMc : CheapL M.2 := by rw [hM2]; exact hlow4.cheap (by omega)
  have hord := h4.fwd.order
  have hcM := hord.cnt h4.fwd.to
  obtain ⟨cN, hcN⟩ : ∃ cN, cntF M.2 (numsL M.2.length) 0 = cN := ⟨_, rfl⟩
  have hcb : cN ≤ 5 ^ 4 := by rw [← hcN]; exact cnt_bound h4.fwd hcM h4.arcs 4 0 h4.pos (by have := h4.len; omega)
  have hPM : PathAns M 0 (cN : Int) 0 := by
    unfold PathAns
    rw [if_pos rfl]
    refine .inl ⟨_, hord, ?_⟩
    rw [hM1]
    unfold pathA
    rw [if_neg (by decide), show (Int.toNat 0) = 0 from rfl, hcN, if_neg (by omega)]
  have HPm : Hid (∀ W v, Mach W v M → Calls Tryz.prog 6 #[v] W fun e w' => e = .returned (.tuple #[.int .i64 (cN : Int), .int .i64 0]) ∧ Below W.heap.size W w') := fun W v h1 => by
    refine (paths_any v M W h1 (right_ok h4.right) 0 h4.right).mono ?_
    rintro e w' ⟨x, ec, rfl, hA, hb⟩
    obtain ⟨rfl, rfl⟩ := hA.one hPM
    exact ⟨rfl, hb⟩
  have HPu : Hid (∀ W v, Mach W v U → Calls Tryz.prog 6 #[v] W fun e w' => ∃ k : Nat, e = .returned (.tuple #[.int .i64 (k : Int), .int .i64 0]) ∧ (k ≤ cN ∧ (0 < k ↔ 0 < cN)) ∧ Below W.heap.size W w') := fun W v h1 => by
    refine (paths_any v U W h1 (right_ok uf) 0 uf).mono ?_
    rintro e w' ⟨x, ec, rfl, hA, hb⟩
    unfold PathAns at hA
    rw [if_pos rfl] at hA
    rcases hA with ⟨out, ho, hp⟩ | ⟨hc, _⟩
    · have h9 := hcnt out ho _ hcM
      rw [hcN] at h9
      rw [u0] at hp
      unfold pathA at hp
      rw [if_neg (by decide), show (Int.toNat 0) = 0 from rfl, if_neg (by omega)] at hp
      simp only [Prod.mk.injEq] at hp
      obtain ⟨rfl, rfl⟩ := hp
      exact ⟨_, rfl, h9, hb⟩
    · exact absurd hc hnc
  have HLm : Hid (∀ W v, Mach W v M → Calls Tryz.prog 7 #[v] W fun e w' => ∃ x : Int, e = .returned (.tuple #[.int .i64 x, .int .i64 0]) ∧ CstIs (EndC M.2 M.1.toNat) x ∧ Below W.heap.size W w') := fun W v h1 => least_cst v M W h1 h4.right hMc hz4
  have HLu : Hid (∀ W v, Mach W v U → Calls Tryz.prog 7 #[v] W fun e w' => ∃ x : Int, e = .returned (.tuple #[.int .i64 x, .int .i64 0]) ∧ CstIs (EndC U.2 U.1.toNat) x ∧ Below W.heap.size W w') := fun W v h1 => least_cst v U W h1 uf hUc (by rw [u0]; decide)
  have HLE : Hid (∀ a b, CstIs (EndC M.2 M.1.toNat) a → CstIs (EndC U.2 U.1.toNat) b → a = b) := fun a b h1 h2 => cer_least h4.right hz4 hU h1 h2
  have HUu : Hid (∀ W v, Tab W → Mach W v M → Calls Tryz.prog 5 #[v] W fun e w' => RatRes U 0 W e w') := fun W v hT h1 => by
    have := certP_any v _ W h1 (right_ok h4.right) hT
    rw [hU] at this
    exact this
  have HFW : Hid (∀ W, Below w.heap.size w W → Calls Tryz.prog 4 #[vx, .int .i64 4] W fun e w' => ∃ vs, e = .returned (.agg #[.int .i64 0, vs]) ∧ OwnSts w' W.heap.size vs (fwdM (madeM rx 4 false)).2 ∧ Below W.heap.size W w') := fun W hW => forward_own vx rx 4 W (hx.later hW (Nat.le_refl _)) hokx hwfx (by omega) (by omega)
  have HMM : Hid (∀ W B vs, OwnSts W B vs (mxL (fwdM (madeM rx 4 false)).2) → Mach W (.agg #[.int .i64 0, vs]) M) := fun W B vs h1 => ⟨vs, by rw [hM1], by rw [hM2]; exact h1.sts⟩
  have hpos : (0 : Int) < (U.2.length : Int) := by omega
  obtain ⟨vs0x, rfl, hNx⟩ := hx
  obtain ⟨a0x, c0x, rfl, hNxx⟩ := hNx.get
  have HS6 := hidP s6
  clear hNx hNxx hokx hwfx s1 s2 s3 s6 s7 h4 hin hemp hU hz4 hlow4 hUc uf up u0 hnc hcnt hM hM1 hM2 hMc hord hcM hcN hPM
  obtain ⟨l, hl⟩ : ∃ l, (fwdM (madeM rx 4 false)).2 = l := ⟨_, rfl⟩
  rw [hl] at HFW HMM s4 s5 HS6
  clear hl
  obtain ⟨n, hn⟩ : ∃ n, l.length = n := ⟨_, rfl⟩
  have HN := hidP hn
  rw [hn] at s4 s5
  clear hn
  go_enter Tryz.func3, Tryz.ntmps3
  go_wp2_with (first
    | (go_at_call 4; (with_reducible refine (HFW.out _ (by go_grown)).mono ?_); rintro e w1 ⟨vs, rfl, ho, hb⟩; obtain ⟨s8, b8, hb1⟩ := boxed hb (by simp); have HB1 := hidP hb1; have HO1 : Hid (OwnSts w1 w.heap.size vs l) := ho.monoB (by simp); obtain ⟨aS, cS, hvs⟩ := ho.sts.sl; rw [HN.out] at hvs; subst hvs; clear hb b8 hb1 ho HFW))
  obtain ⟨g, hg, hg1, hg2⟩ := OwnSts.at (w := w1) (l := l) (by rw [HN.out]; exact HO1.out) (by rw [HN.out]; exact s4)
  subst hg
  have HW1 : Hid (MxW w (w1.alloc (.cells #[.int .i64 0, .slice (some ⟨g, 0, none⟩) n cS] 27)) w.heap.size w1.heap.size (.slice (some ⟨g, 0, none⟩) n cS) l) := ⟨Blk.made _ _ _, HO1.out.laterB ((Below.refl _ _).alloc (Nat.le_refl _) _), HB1.out.alloc HB1.out.size _, HB1.out.size, Nat.le_refl _⟩
  obtain ⟨V, hV⟩ : ∃ V, V = w1.heap.size := ⟨_, rfl⟩
  have HVE := hidP hV
  rw [← hV] at HW1
  rw [← HVE.out]
  clear hV HB1 HO1 hg1 hg2 s8
  go_loopw [4] (fun s4 wr => ∃ (q : Nat) (l' : List St), q ≤ n ∧ s4 = .int .i64 (q : Int) ∧ Hid (MaxR l l' q 0) ∧ Hid (MxW w wr w.heap.size V (.slice (some ⟨g, 0, none⟩) n cS) l')) (fun s4 _ => n - (intOf s4).toNat)
  case atStart => exact ⟨0, l, Nat.zero_le _, rfl, MaxR.start l, HW1⟩
  case round =>
    clear HW1
    obtain ⟨q, l1, hq, rfl, hR, hW⟩ := hrel
    obtain ⟨w2, hw2⟩ : ∃ w2, w2 = wr := ⟨_, rfl⟩
    subst hw2
    have c1 := hW.out.var.cell 1 (v := .slice (some ⟨g, 0, none⟩) n cS) rfl
    by_cases hqn : q < n
    · have q0 : (0 : Int) ≤ (q : Int) := Int.natCast_nonneg _
      have q1 : (q : Int) < (n : Int) := by omega
      go_wp2
      go_loopw [5] (fun s5 wr => ∃ (i : Nat) (l' : List St), i ≤ (el l q).2.length ∧ s5 = .int .i64 (i : Int) ∧ Hid (MaxR l l' q i) ∧ Hid (MxW w wr w.heap.size V (.slice (some ⟨g, 0, none⟩) n cS) l')) (fun s5 _ => (el l q).2.length - (intOf s5).toNat)
      case atStart => exact ⟨0, l1, Nat.zero_le _, rfl, hR, hW⟩
      case round =>
        clear hR hW c1
        obtain ⟨i, l2, hi, rfl, hR, hW⟩ := hrel
        obtain ⟨w3, hw3⟩ : ∃ w3, w3 = wr := ⟨_, rfl⟩
        subst hw3
        have c1 := hW.out.var.cell 1 (v := .slice (some ⟨g, 0, none⟩) n cS) rfl
        have hl2 : l2.length = n := hR.out.len.trans HN.out
        have hS2 : OwnSts w3 w.heap.size (.slice (some ⟨g, 0, none⟩) l2.length cS) l2 := by rw [hl2]; exact hW.out.sts
        have hal : (el l2 q).2.length = (el l q).2.length := hR.out.arcs q (by rw [HN.out]; exact hqn)
        by_cases hil : i < (el l q).2.length
        · obtain ⟨ga, ca, d1, hga, d2, d3, l3, o3, e1, e2, e3⟩ := hS2.mx (q := q) (i := i) (by rw [hl2]; exact hqn) (by rw [hal]; exact hil)
          rw [hal] at d1
          have HR3 := hidP (hR.out.step (by rw [HN.out]; exact hqn) hil e1 e2 e3)
          rw [hl2] at o3
          have hV3 : V ≠ ga := fun e => by
            have hbv := hW.out.var
            obtain ⟨vv, y1, y2, y3⟩ := hS2
            have hr := (y3 q (by rw [hl2]; exact hqn)).2
            rcases hr.2 with ⟨_, h0⟩ | ⟨gb, cb, cur, hv, _, hgb, _⟩
            · rw [hal] at h0; omega
            · have k1 := flat_at encS_len vv q (by rw [y2, hl2]; exact hqn) 1 (by omega)
              have k2 := y1.cells (g := g) rfl (q * 2 + 1) (el vv q).2 (by rw [k1]; rfl)
              rw [Addr.add_lit, Nat.zero_add] at k2
              rw [d1, hv] at k2
              simp only [Option.some.injEq, Value.slice.injEq, Addr.mk.injEq, and_true, true_and] at k2
              have : gb = ga := k2.1.symm
              subst this
              subst e
              unfold Blk at hbv
              rw [hbv] at hgb
              exact absurd hgb (by simp)
          have HW3 : Hid (MxW w (w3.drew.setCell ⟨ga, i * 4, none⟩ (.int .i64 (mxI (el (el l2 q).2 i).1))) w.heap.size V (.slice (some ⟨g, 0, none⟩) n cS) l3) := ⟨hW.out.var.drew.setO _ _ hV3, o3.laterB ⟨rfl, rfl, rfl, Nat.le_refl _, fun _ _ => rfl⟩, hW.out.below.drew.setCell (p := ⟨ga, i * 4, none⟩) hga _, hW.out.hV, hW.out.hB⟩
          obtain ⟨x, hxe⟩ : ∃ x, (el (el l2 q).2 i).1 = x := ⟨_, rfl⟩
          rw [hxe] at d2 HW3
          have HMXE : Hid ((if x < 1 then 1 else x) = mxI x) := rfl
          obtain ⟨m2, hm2⟩ : ∃ m2, (el l q).2.length = m2 := ⟨_, rfl⟩
          rw [hm2] at d1
          have hil2 : (i : Int) < (m2 : Int) := by omega
          have i0 : (0 : Int) ≤ (i : Int) := Int.natCast_nonneg _
          have hm4 : m2 ≤ 4 := by rw [← hm2]; exact HS6.out q (by rw [HN.out]; exact hqn)
          have HM2 := hidP hm2
          have HIL := hidP hil
          have HIQ := hidP hi
          clear hS2 o3 e1 e2 e3 hxe hal hl2 hR hW hm2 hil hi
          have HS0 : HeldMx V (.slice (some ⟨g, 0, none⟩) n cS) g (q * 2 + 1) (.slice (some ⟨ga, 0, none⟩) m2 ca) ga (i * 4) x w3.drew := ⟨c1, d1, d2⟩
          go_wp2
          refine region_anyL (HeldMx V (.slice (some ⟨g, 0, none⟩) n cS) g (q * 2 + 1) (.slice (some ⟨ga, 0, none⟩) m2 ca) ga (i * 4) x) 20 (by kernel_rfl) ?_
          refine anyL_take (i := 0) (v := ?v0_1) at0 (by kernel_rfl) (by kernel_rfl) (by kernel_rfl) (by kernel_rfl) (fun _ _ _ h => h) rfl ?y0_1 HS0 ?r0_1
          case y0_1 => intro wx hx; obtain ⟨h0, h1, h2⟩ := hx; go_simp; try (with_reducible rfl)
          simp only [Act.put, List.setIfInBounds_toArray, List.set_cons_zero, List.set_cons_succ]
          refine anyL_take (i := 1) (v := ?v1_2) (atS at0) (by kernel_rfl) (by kernel_rfl) (by kernel_rfl) (by kernel_rfl) (fun _ _ _ h => h) rfl ?y1_2 HS0 ?r1_2
          case y1_2 => intro wx hx; obtain ⟨h0, h1, h2⟩ := hx; go_simp; try (with_reducible rfl)
          simp only [Act.put, List.setIfInBounds_toArray, List.set_cons_zero, List.set_cons_succ]
          refine anyL_take (i := 2) (v := ?v2_3) (atS (atS at0)) (by kernel_rfl) (by kernel_rfl) (by kernel_rfl) (by kernel_rfl) (fun _ _ _ h => h) rfl ?y2_3 HS0 ?r2_3
          case y2_3 => intro wx hx; obtain ⟨h0, h1, h2⟩ := hx; go_simp; try (with_reducible rfl)
          simp only [Act.put, List.setIfInBounds_toArray, List.set_cons_zero, List.set_cons_succ]
          refine anyL_take (i := 3) (v := ?v3_4) (atS (atS (atS at0))) (by kernel_rfl) (by kernel_rfl) (by kernel_rfl) (by kernel_rfl) (fun _ _ _ h => h) rfl ?y3_4 HS0 ?r3_4
          case y3_4 => intro wx hx; obtain ⟨h0, h1, h2⟩ := hx; go_simp; try (with_reducible rfl)
          simp only [Act.put, List.setIfInBounds_toArray, List.set_cons_zero, List.set_cons_succ]
          refine anyL_take (i := 4) (v := ?v4_5) (atS (atS (atS (atS at0)))) (by kernel_rfl) (by kernel_rfl) (by kernel_rfl) (by kernel_rfl) (fun _ _ _ h => h) rfl ?y4_5 HS0 ?r4_5
          case y4_5 => intro wx hx; obtain ⟨h0, h1, h2⟩ := hx; go_simp; try (with_reducible rfl)
          simp only [Act.put, List.setIfInBounds_toArray, List.set_cons_zero, List.set_cons_succ]
          refine anyL_take (i := 5) (v := ?v5_6) (atS (atS (atS (atS (atS at0))))) (by kernel_rfl) (by kernel_rfl) (by kernel_rfl) (by kernel_rfl) (fun _ _ _ h => h) rfl ?y5_6 HS0 ?r5_6
          case y5_6 => intro wx hx; obtain ⟨h0, h1, h2⟩ := hx; go_simp; try (with_reducible rfl)
          simp only [Act.put, List.setIfInBounds_toArray, List.set_cons_zero, List.set_cons_succ]
          refine anyL_take (i := 6) (v := ?v6_7) (atS (atS (atS (atS (atS (atS at0)))))) (by kernel_rfl) (by kernel_rfl) (by kernel_rfl) (by kernel_rfl) (fun _ _ _ h => h) rfl ?y6_7 HS0 ?r6_7
          case y6_7 => intro wx hx; obtain ⟨h0, h1, h2⟩ := hx; go_simp; try (with_reducible rfl)
          simp only [Act.put, List.setIfInBounds_toArray, List.set_cons_zero, List.set_cons_succ]
          refine anyL_take (i := 7) (v := ?v7_8) (atS (atS (atS (atS (atS (atS (atS at0))))))) (by kernel_rfl) (by kernel_rfl) (by kernel_rfl) (by kernel_rfl) (fun _ _ _ h => h) rfl ?y7_8 HS0 ?r7_8
          case y7_8 => intro wx hx; obtain ⟨h0, h1, h2⟩ := hx; go_simp; try (with_reducible rfl)
          simp only [Act.put, List.setIfInBounds_toArray, List.set_cons_zero, List.set_cons_succ]
          refine anyL_take (i := 8) (v := ?v8_9) (atS (atS (atS (atS (atS (atS (atS (atS at0)))))))) (by kernel_rfl) (by kernel_rfl) (by kernel_rfl) (by kernel_rfl) (fun _ _ _ h => h) rfl ?y8_9 HS0 ?r8_9
          case y8_9 => intro wx hx; obtain ⟨h0, h1, h2⟩ := hx; go_simp; try (with_reducible rfl)
          simp only [Act.put, List.setIfInBounds_toArray, List.set_cons_zero, List.set_cons_succ]
          refine anyL_take (i := 9) (v := ?v9_10) (atS (atS (atS (atS (atS (atS (atS (atS (atS at0))))))))) (by kernel_rfl) (by kernel_rfl) (by kernel_rfl) (by kernel_rfl) (fun _ _ _ h => h) rfl ?y9_10 HS0 ?r9_10
          case y9_10 => intro wx hx; obtain ⟨h0, h1, h2⟩ := hx; go_simp; try (with_reducible rfl)
          simp only [Act.put, List.setIfInBounds_toArray, List.set_cons_zero, List.set_cons_succ]
          refine anyL_take (i := 10) (v := ?v10_11) (atS (atS (atS (atS (atS (atS (atS (atS (atS (atS at0)))))))))) (by kernel_rfl) (by kernel_rfl) (by kernel_rfl) (by kernel_rfl) (fun _ _ _ h => h) rfl ?y10_11 HS0 ?r10_11
          case y10_11 => intro wx hx; obtain ⟨h0, h1, h2⟩ := hx; go_simp; try (with_reducible rfl)
          simp only [Act.put, List.setIfInBounds_toArray, List.set_cons_zero, List.set_cons_succ]
          refine anyL_take (i := 11) (v := ?v11_12) (atS (atS (atS (atS (atS (atS (atS (atS (atS (atS (atS at0))))))))))) (by kernel_rfl) (by kernel_rfl) (by kernel_rfl) (by kernel_rfl) (fun _ _ _ h => h) rfl ?y11_12 HS0 ?r11_12
          case y11_12 => intro wx hx; obtain ⟨h0, h1, h2⟩ := hx; go_simp; try (with_reducible rfl)
          simp only [Act.put, List.setIfInBounds_toArray, List.set_cons_zero, List.set_cons_succ]
          refine anyL_take (i := 12) (v := ?v12_13) (atS (atS (atS (atS (atS (atS (atS (atS (atS (atS (atS (atS at0)))))))))))) (by kernel_rfl) (by kernel_rfl) (by kernel_rfl) (by kernel_rfl) (fun _ _ _ h => h) rfl ?y12_13 HS0 ?r12_13
          case y12_13 => intro wx hx; obtain ⟨h0, h1, h2⟩ := hx; go_simp; try (with_reducible rfl)
          simp only [Act.put, List.setIfInBounds_toArray, List.set_cons_zero, List.set_cons_succ]
          refine anyL_take (i := 13) (v := ?v13_14) (atS (atS (atS (atS (atS (atS (atS (atS (atS (atS (atS (atS (atS at0))))))))))))) (by kernel_rfl) (by kernel_rfl) (by kernel_rfl) (by kernel_rfl) (fun _ _ _ h => h) rfl ?y13_14 HS0 ?r13_14
          case y13_14 => intro wx hx; obtain ⟨h0, h1, h2⟩ := hx; go_simp; try (with_reducible rfl)
          simp only [Act.put, List.setIfInBounds_toArray, List.set_cons_zero, List.set_cons_succ]
          refine anyL_take (i := 14) (v := ?v14_15) (atS (atS (atS (atS (atS (atS (atS (atS (atS (atS (atS (atS (atS (atS at0)))))))))))))) (by kernel_rfl) (by kernel_rfl) (by kernel_rfl) (by kernel_rfl) (fun _ _ _ h => h) rfl ?y14_15 HS0 ?r14_15
          case y14_15 => intro wx hx; obtain ⟨h0, h1, h2⟩ := hx; go_simp; try (with_reducible rfl)
          simp only [Act.put, List.setIfInBounds_toArray, List.set_cons_zero, List.set_cons_succ]
          refine anyL_take (i := 15) (v := ?v15_16) (atS (atS (atS (atS (atS (atS (atS (atS (atS (atS (atS (atS (atS (atS (atS at0))))))))))))))) (by kernel_rfl) (by kernel_rfl) (by kernel_rfl) (by kernel_rfl) (fun _ _ _ h => h) rfl ?y15_16 HS0 ?r15_16
          case y15_16 => intro wx hx; obtain ⟨h0, h1, h2⟩ := hx; go_simp; try (with_reducible rfl)
          simp only [Act.put, List.setIfInBounds_toArray, List.set_cons_zero, List.set_cons_succ]
          refine anyL_take (i := 16) (v := ?v16_17) (atS (atS (atS (atS (atS (atS (atS (atS (atS (atS (atS (atS (atS (atS (atS (atS at0)))))))))))))))) (by kernel_rfl) (by kernel_rfl) (by kernel_rfl) (by kernel_rfl) (fun _ _ _ h => h) rfl ?y16_17 HS0 ?r16_17
          case y16_17 => intro wx hx; obtain ⟨h0, h1, h2⟩ := hx; go_simp; try (with_reducible rfl)
          simp only [Act.put, List.setIfInBounds_toArray, List.set_cons_zero, List.set_cons_succ]
          refine anyL_take (i := 17) (v := .int .i64 (mxI x)) (atS (atS (atS (atS (atS (atS (atS (atS (atS (atS (atS (atS (atS (atS (atS (atS (atS at0))))))))))))))))) (by kernel_rfl) (by kernel_rfl) (by kernel_rfl) (by kernel_rfl) (fun _ _ _ h => h) rfl ?y17_18 HS0 ?r17_18
          case y17_18 => intro wx hx; obtain ⟨h0, h1, h2⟩ := hx; go_simp; first | rw [HMXE.out] | (rw [← HMXE.out]; split <;> omega)
          simp only [Act.put, List.setIfInBounds_toArray, List.set_cons_zero, List.set_cons_succ]
          refine anyL_one (i := 18) (atS (atS (atS (atS (atS (atS (atS (atS (atS (atS (atS (atS (atS (atS (atS (atS (atS (atS at0)))))))))))))))))) (by kernel_rfl) rfl (fun K hK => ?_)
          go_simp
          refine hK _ _ (.inr HS0) ?_
          try simp only [Act.put, List.setIfInBounds_toArray, List.set_cons_zero, List.set_cons_succ]
          refine anyL_one (i := 19) (atS (atS (atS (atS (atS (atS (atS (atS (atS (atS (atS (atS (atS (atS (atS (atS (atS (atS (atS at0))))))))))))))))))) (by kernel_rfl) rfl (fun K hK => ?_)
          go_simp
          refine hK _ _ (.inr HS0) ?_
          try simp only [Act.put, List.setIfInBounds_toArray, List.set_cons_zero, List.set_cons_succ]
          refine anyL_one (i := 20) (atS (atS (atS (atS (atS (atS (atS (atS (atS (atS (atS (atS (atS (atS (atS (atS (atS (atS (atS (atS at0)))))))))))))))))))) (by kernel_rfl) rfl (fun K hK => ?_)
          go_simp
          refine hK _ _ (.inl rfl) (anyL_done (by kernel_rfl) (NoPanic.normal ?_))
          try simp only [Act.put, List.setIfInBounds_toArray, List.set_cons_zero, List.set_cons_succ]
          clear HS0
          go_wp2
          go_roundw
          case rel => exact ⟨i + 1, l3, by have := HIL.out; omega, by go_num, HR3, HW3⟩
          case measure => have := HIL.out; simp [intOf]; omega
        · obtain ⟨va, d0, d1, hA⟩ := OwnSts.cells hS2 (q := q) (by rw [hl2]; exact hqn)
          obtain ⟨aa, ca, hva⟩ := hA.sl
          rw [hal] at hva
          subst hva
          have HR3 := hidP (hR.out.next hil)
          have hil2 : ¬ (i : Int) < (((el l q).2.length : Nat) : Int) := by omega
          generalize (el l q).2.length = m2 at *
          clear hS2 hal hl2 hR hA
          go_wp2
          go_roundw
          case rel => exact ⟨q + 1, l2, by omega, by go_num, HR3, hW⟩
          case measure => simp [intOf]; omega
    · have q1 : ¬ (q : Int) < (n : Int) := by omega
      obtain rfl : q = n := by omega
      have hl1 : l1 = mxL l := MaxR.all (by rw [HN.out]; exact hR.out)
      subst hl1
      have HM0 := hidP (HMM.out _ _ _ hW.out.sts)
      have HV0 := hidP hW.out.var
      have HB0 := hidP hW.out.below
      have c0 := HV0.out.cell 0 (v := .int .i64 0) rfl
      have hVl := HV0.out.lt
      clear hR hW HMM
      go_wp2_with (first
        | (go_at_call 5; (with_reducible refine (HUu.out _ _ (HTB.out.later HB0.out) HM0.out).mono ?_); rintro e w4 ⟨v4, rfl, hm4, hb4⟩; have HV4 := hidP (HV0.out.below hb4 HV0.out.lt); have HM4 := hidP (HM0.out.later hb4 (Nat.le_refl _)); have HU4 := hidP hm4; have HB4 := hidP (HB0.out.trans (hb4.mono HB0.out.size)); obtain ⟨vsu, rfl, hSu⟩ := hm4; obtain ⟨au, cu, rfl⟩ := hSu.sl; have HA4 := hidP ((Below.refl w4.heap.size w4).alloc (Nat.le_refl _) (.cells #[.int .i64 U.1, .slice au U.2.length cu] 27)); have HX4 := hidP (Blk.made w4 #[.int .i64 U.1, .slice au U.2.length cu] 27); have c40 := HV4.out.cell 0 (v := .int .i64 0) rfl; have c41 := HV4.out.cell 1 (v := .slice (some ⟨g, 0, none⟩) q cS) rfl; have hV4 := HV4.out.lt; clear hSu hb4 HUu)
        | (go_at_call 6; (with_reducible refine (HPm.out _ _ (HM4.out.later HA4.out (Nat.le_refl _))).mono ?_); rintro e w5 ⟨rfl, hb5⟩; have HV5 := hidP ((HV4.out.below HA4.out HV4.out.lt).below hb5 (HV4.out.below HA4.out HV4.out.lt).lt); have HX5 := hidP (HX4.out.below hb5 HX4.out.lt); have HM5 := hidP ((HM4.out.later HA4.out (Nat.le_refl _)).later hb5 (Nat.le_refl _)); have HU5 := hidP ((HU4.out.later HA4.out (Nat.le_refl _)).later hb5 (Nat.le_refl _)); have HB5 := hidP ((HB4.out.trans (HA4.out.mono HB4.out.size)).trans (hb5.mono (Nat.le_trans HB4.out.size HA4.out.size))); have c50 := HV5.out.cell 0 (v := .int .i64 0) rfl; have c51 := HV5.out.cell 1 (v := .slice (some ⟨g, 0, none⟩) q cS) rfl; have x50 := HX5.out.cell 0 (v := .int .i64 U.1) rfl; have x51 := HX5.out.cell 1 (v := .slice au U.2.length cu) rfl; clear hb5 HPm)
        | (go_at_call 6; (with_reducible refine (HPu.out _ _ HU5.out).mono ?_); rintro e w6 ⟨kk, rfl, hkk, hb6⟩; have HKK := hidP hkk; have HV6 := hidP (HV5.out.below hb6 HV5.out.lt); have HX6 := hidP (HX5.out.below hb6 HX5.out.lt); have HM6 := hidP (HM5.out.later hb6 (Nat.le_refl _)); have HU6 := hidP (HU5.out.later hb6 (Nat.le_refl _)); have HB6 := hidP (HB5.out.trans (hb6.mono HB5.out.size)); have c60 := HV6.out.cell 0 (v := .int .i64 0) rfl; have c61 := HV6.out.cell 1 (v := .slice (some ⟨g, 0, none⟩) q cS) rfl; have x60 := HX6.out.cell 0 (v := .int .i64 U.1) rfl; have x61 := HX6.out.cell 1 (v := .slice au U.2.length cu) rfl; clear hb6 hkk HPu)
        | (go_at_call 7; (with_reducible refine (HLm.out _ _ HM6.out).mono ?_); rintro e w7 ⟨na, rfl, hna, hb7⟩; have HNA := hidP hna; have HX7 := hidP (HX6.out.below hb7 HX6.out.lt); have HU7 := hidP (HU6.out.later hb7 (Nat.le_refl _)); have HB7 := hidP (HB6.out.trans (hb7.mono HB6.out.size)); have x70 := HX7.out.cell 0 (v := .int .i64 U.1) rfl; have x71 := HX7.out.cell 1 (v := .slice au U.2.length cu) rfl; clear hb7 hna HLm)
        | (go_at_call 7; (with_reducible refine (HLu.out _ _ HU7.out).mono ?_); rintro e w8 ⟨nb, rfl, hnb, hb8⟩; have heq := HLE.out _ _ HNA.out hnb; subst heq; have HX8 := hidP (HX7.out.below hb8 HX7.out.lt); have HB8 := hidP (HB7.out.trans (hb8.mono HB7.out.size)); have x80 := HX8.out.cell 0 (v := .int .i64 U.1) rfl; have x81 := HX8.out.cell 1 (v := .slice au U.2.length cu) rfl; have tn : (na == na) = true := (by simp); have tk : (kk : Int) ≤ (cN : Int) := (by have := HKK.out.1; omega); have tb : (0 < kk ↔ 0 < cN) := HKK.out.2; clear hb8 hnb HLu))
      go_ret
      exact ⟨rfl, HB8.out⟩
theorem walk (vx : Value) (rx : Rw) (w : World) (hx : RawV w vx rx ∧ okR rx ∧ wfR rx) (htab : Tab w) :
    Calls Tryz.prog 3 #[vx] w fun e w' => e = .returned (.bool true) ∧ Below w.heap.size w w' := core vx rx w hx htab

theorem gTab : Tryz.prog.globalNamed "internal/strconv.uint64pow10" = some 0 := by kernel_rfl
theorem gTabType : (Tryz.prog.globals[0]?).map (·.type) = some 161 := by kernel_rfl
theorem cellsT : Tryz.prog.cellsOf 161 = 20 := by kernel_rfl
theorem cellsE : Tryz.prog.cellsOf 141 = 1 := by kernel_rfl
theorem tabEq : (Rows.laid_internal_strconv_uint64pow10 : DataW Unit) = Lib.tabData .u64 Lib.pow10Tab := by kernel_rfl
theorem tabOf {W : World} (h : laidMetH Tryz.prog Rows.certainAllRow.laid W) : Tab W := by
  have h1 : laidMet Tryz.prog [("math/bits.deBruijn32tab", Rows.laid_math_bits_deBruijn32tab), ("math/bits.deBruijn64tab", Rows.laid_math_bits_deBruijn64tab), ("internal/strconv.uint64pow10", Rows.laid_internal_strconv_uint64pow10)] W := h
  have h2 : laidMet Tryz.prog [("internal/strconv.uint64pow10", Rows.laid_internal_strconv_uint64pow10)] W := h1.tail.tail
  rw [tabEq] at h2
  exact Lib.tabIs_of_head gTab gTabType Tryz.underlying161 Tryz.underlying141 cellsE cellsT h2
set_option maxRecDepth 100000 in
theorem contract (H : Type) (enc : TypeId × Value → H) (W : World) (base : Nat) (args : Array Value) (ds gs : List (DataW H)) (before : List MemPlace)
    (hval : ∀ (j : Nat) t v, Tryz.f3.params[j]? = some t → args[j]? = some v → Value.okWide Tryz.prog W .any base t v)
    (hW : DataW.Whole enc Tryz.prog Tryz.f3.params.toList Rows.certainAllSpec.vars false W args.toList ds gs before)
    (hsz : (DataW.weightsEach Tryz.prog (Tryz.f3.params.toList ++ (OpenSpec.ofChange Rows.certainAllSpec).bare.plain.varTypes Tryz.prog) (ds ++ gs)).all (· ≤ reachBytes) = true)
    (hL : laidMetH Tryz.prog Rows.certainAllRow.laid W) :
    Calls Tryz.prog 3 args W fun e W' => ∃ v, e = .returned v ∧ Rows.certainAllSpec.post enc Tryz.prog Tryz.f3 false true false false W args v W' := by
  have hW' := hW
  obtain ⟨p, q, hA0, hV, rfl, hfz, hnd⟩ := hW
  have hA : DataW.TrodAll enc Tryz.prog W 0 (fun _ => true) true Tryz.f3.params.toList args.toList ds p := hA0
  rw [Tryz.params3] at hA hval hsz
  obtain ⟨v0, vs0, d0, ds0, p0, q0, hargs, rfl, rfl, h0, r0⟩ := trodAll_cons hA
  obtain ⟨rfl, rfl, rfl⟩ := trodAll_nil r0
  obtain rfl : args = #[v0] := by cases args; simp_all
  obtain ⟨rfl, rfl⟩ := trodVars_none hV
  have k0 := h0
  have lt0 : ∀ x ∈ p0, x.block < W.heap.size := by obtain ⟨m, hm⟩ := k0; exact DataW.trod_lt m _ _ _ hm
  obtain ⟨z0, w0⟩ : ∃ m : Rw, RawV W v0 m ∧ okR m ∧ wfR m := by
    obtain ⟨c0, c1, y0, y1, n, rfl, hd, hp, t0, t1⟩ := Go.Joins.open_agg2 Tryz.underlying24 (by kernel_rfl) (by kernel_rfl) (hval 0 24 v0 rfl rfl) h0
    subst hd
    exact open_raw t0 t1 ((Fits.arg hsz (j := 0) rfl rfl).field Tryz.underlying24 (f := 1) rfl rfl)
  refine (walk v0 z0 W w0 (tabOf hL)).mono fun e W' ⟨he, bel⟩ => ?_
  subst he
  exact ⟨_, rfl, _, _, _, [], _, [], hW', trodAll_mk1 (shut_bool Tryz.underlying4 _), (trodAll_cons_mk (Below.trod laidOut (by kernel_rfl) (of_decide_eq_true (by kernel_rfl)) k0 bel lt0) trodAll_mk0), rfl, bel.frame _, fun h => by cases h⟩
def cells_laid_math_bits_deBruijn32tab : Array Value := #[.int .u8 0, .int .u8 1, .int .u8 28, .int .u8 2, .int .u8 29, .int .u8 14, .int .u8 24, .int .u8 3, .int .u8 30, .int .u8 22, .int .u8 20, .int .u8 15, .int .u8 25, .int .u8 17, .int .u8 4, .int .u8 8, .int .u8 31, .int .u8 27, .int .u8 13, .int .u8 23, .int .u8 21, .int .u8 19, .int .u8 16, .int .u8 7, .int .u8 26, .int .u8 12, .int .u8 18, .int .u8 6, .int .u8 11, .int .u8 5, .int .u8 10, .int .u8 9]
def cells_laid_math_bits_deBruijn64tab : Array Value := #[.int .u8 0, .int .u8 1, .int .u8 56, .int .u8 2, .int .u8 57, .int .u8 49, .int .u8 28, .int .u8 3, .int .u8 61, .int .u8 58, .int .u8 42, .int .u8 50, .int .u8 38, .int .u8 29, .int .u8 17, .int .u8 4, .int .u8 62, .int .u8 47, .int .u8 59, .int .u8 36, .int .u8 45, .int .u8 43, .int .u8 51, .int .u8 22, .int .u8 53, .int .u8 39, .int .u8 33, .int .u8 30, .int .u8 24, .int .u8 18, .int .u8 12, .int .u8 5, .int .u8 63, .int .u8 55, .int .u8 48, .int .u8 27, .int .u8 60, .int .u8 41, .int .u8 37, .int .u8 16, .int .u8 46, .int .u8 35, .int .u8 44, .int .u8 21, .int .u8 52, .int .u8 32, .int .u8 23, .int .u8 11, .int .u8 54, .int .u8 26, .int .u8 40, .int .u8 15, .int .u8 34, .int .u8 20, .int .u8 31, .int .u8 10, .int .u8 25, .int .u8 14, .int .u8 19, .int .u8 9, .int .u8 13, .int .u8 8, .int .u8 7, .int .u8 6]
def cells_laid_internal_strconv_uint64pow10 : Array Value := #[.int .u64 1, .int .u64 10, .int .u64 100, .int .u64 1000, .int .u64 10000, .int .u64 100000, .int .u64 1000000, .int .u64 10000000, .int .u64 100000000, .int .u64 1000000000, .int .u64 10000000000, .int .u64 100000000000, .int .u64 1000000000000, .int .u64 10000000000000, .int .u64 100000000000000, .int .u64 1000000000000000, .int .u64 10000000000000000, .int .u64 100000000000000000, .int .u64 1000000000000000000, .int .u64 10000000000000000000]
def layOne (c : Array Value) : Obj → Obj
  | .cells _ t frozen => .cells c t frozen
  | o => o
theorem laid_met (os : Os) : laidMet Tryz.prog Rows.certainAllRow.laid (World.forCall ({ World.holding Tryz.prog os ⟨#[], #[], []⟩ with heap := ((((World.holding Tryz.prog os ⟨#[], #[], []⟩).heap.modify 1 (layOne cells_laid_math_bits_deBruijn32tab)).modify 2 (layOne cells_laid_math_bits_deBruijn64tab)).modify 0 (layOne cells_laid_internal_strconv_uint64pow10)) }) (fun _ _ => 0) ⟨#[], #[.agg #[.int .i64 0, .slice none 0 0]], []⟩).memory :=
  laidMet_of_run' 8 (by kernel_rfl) (by kernel_rfl)
theorem reads (os : Os) {H : Type} (enc : TypeId × Value → H) : ∃ places, DataW.whole enc Tryz.prog (World.forCall ({ World.holding Tryz.prog os ⟨#[], #[], []⟩ with heap := ((((World.holding Tryz.prog os ⟨#[], #[], []⟩).heap.modify 1 (layOne cells_laid_math_bits_deBruijn32tab)).modify 2 (layOne cells_laid_math_bits_deBruijn64tab)).modify 0 (layOne cells_laid_internal_strconv_uint64pow10)) }) (fun _ _ => 0) ⟨#[], #[.agg #[.int .i64 0, .slice none 0 0]], []⟩).memory Tryz.f3.params.toList Rows.certainAllSpec.vars false (#[.agg #[.int .i64 0, .slice none 0 0]] : Array Value).toList 8 = some ([.agg [.lit (.int .i64 0), .nil]], [], places) :=
  ⟨[], by kernel_rfl⟩
set_option maxRecDepth 100000 in
theorem lifted (os : Os) (started : os.Started) (H : Type) (enc : TypeId × Value → H) (F : Stop.Interp) :
    ReturnsInHanded {} Tryz.checked os 3 .any ((OpenSpec.ofChange Rows.certainAllSpec).preRow enc Tryz.prog Tryz.f3 Rows.certainAllRow.domain false Rows.certainAllRow.laid) (((OpenSpec.ofChange Rows.certainAllSpec).at F).post enc Tryz.prog Tryz.f3 false true false false) := by
  obtain ⟨places, hx⟩ := reads os enc
  refine returnsInHanded_of_row (C := Tryz.checked) (s := OpenSpec.ofChange Rows.certainAllSpec) own started (by kernel_rfl) Tryz.func3
    (witness_row_at (enc := enc) (C := Tryz.checked) false ({ World.holding Tryz.prog os ⟨#[], #[], []⟩ with heap := ((((World.holding Tryz.prog os ⟨#[], #[], []⟩).heap.modify 1 (layOne cells_laid_math_bits_deBruijn32tab)).modify 2 (layOne cells_laid_math_bits_deBruijn64tab)).modify 0 (layOne cells_laid_internal_strconv_uint64pow10)) }) #[.agg #[.int .i64 0, .slice none 0 0]] rfl (by kernel_rfl) (by kernel_rfl) (by kernel_rfl)
      (OpenSpec.preRow_of_cond 8 hx (by kernel_rfl) (fun k hk => by cases hk) (by kernel_rfl) (laid_met os))) ?_
  intro W base args ds gs before hval hW _ _ hsz hL _ _
  exact contract H enc W base args ds gs before hval hW hsz hL
theorem said : Rows.CertainAllSaid :=
  OpenClaim.holds_of_cond 3 Tryz.f3 rfl rfl rfl rfl rfl rfl rfl ⟨rfl, rfl, rfl, rfl, rfl⟩ rfl rfl rfl rfl rfl (by kernel_rfl) Tryz.func3 (by kernel_rfl)
    (of_decide_eq_true (by kernel_rfl)) (by unfold Func.isWrapper; first | (rw [if_pos (by decide +kernel)]; kernel_rfl) | (rw [if_neg (by decide +kernel)]; exact ⟨rfl, rfl⟩))
    (fun os started H enc _ F => by rw [OpenClaim.pre_eq_preRow]; exact lifted os started H enc F)
theorem plain (f : FuncId) (fn : Func) (hf : Tryz.pinned.checked.prog.funcNamed "tropica/tropicakeep.CertainAll" = some f) (hfn : Tryz.pinned.checked.prog.funcs[f]? = some fn) :
    true = Tryz.pinned.checked.prog.looks [] ∧ ∀ (j : Nat) t, fn.params[j]? = some t → Tryz.pinned.checked.prog.wantsStandIn t = false := by
  obtain rfl : f = 3 := Option.some.inj ((show Tryz.prog.funcNamed "tropica/tropicakeep.CertainAll" = some 3 by kernel_rfl).symm.trans hf) |>.symm
  obtain rfl : fn = Tryz.f3 := (Option.some.inj (Tryz.func3.symm.trans hfn)).symm
  refine ⟨by kernel_rfl, fun j t ht => ?_⟩
  rw [Tryz.params3] at ht
  obtain rfl : t = 24 := by simpa using Array.mem_of_getElem? ht
  exact (show Tryz.prog.wantsStandIn 24 = false by kernel_rfl)
end Go.Proofs.YtfekmlblldhieaaGreatDoor.certainAll
namespace Go.Proofs.YtfekmlblldhieaaGreatDoor
theorem certainAll_card : Rows.CertainAllCardSaid :=
  Claim7.holds_tied_plain_at .later [] _ _ _ _ certainAll.said (fun _ h => by cases h) (by kernel_rfl) (fun _ h => by cases h) certainAll_row_tie rfl ⟨rfl, rfl⟩ (by kernel_rfl) rfl certainAll.plain (by kernel_rfl)
#print axioms certainAll_card
end Go.Proofs.YtfekmlblldhieaaGreatDoor
