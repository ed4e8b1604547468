/- The reference: a machine without its empty arcs. -/
import Derived.Test.YtjpfpdbhdcopbaaHe
import Derived.Test.YtjpfpdbhdcopbaaPlainEc
import Derived.Test.YtjpfpdbhdcopbaaAx
import Derived.Test.YtjpfpdbhdcopbaaRf
import Derived.Test.YtjpfpdbhdcopbaaWx
import Derived.Deep.DeepCutAuto
namespace Go.Proofs.Ytjpfpdbhdcopbaa.Wt
open Go.ChangeShapes Go.WideShapes Go.ChangeAt Go.RowKit
open Go.Proofs.Ytjpfpdbhdcopbaa.Pl
set_option linter.unusedVariables false
set_option linter.unusedSimpArgs false
/-- append(arcs, c), the arcs the call's own; what was laid since is as it was. -/
theorem OwnArcs.pushK {W0 W : World} {base : Nat} {v : Value} {ar : List Ar} (h0 : OwnArcs W0 base v ar) (hW : Below W0.heap.size W0 W) (c : Ar) (hl : ar.length ≤ 100000) (hbase : base ≤ W0.heap.size) :
    ∃ a k w', (Builtin.append_ #[44, 44] 44 #[v, .slice (some ⟨W.heap.size, 0, none⟩) 1 1]).run Try.prog (W.alloc (.cells #[.int .i64 c.1, .int .i64 c.2.1, .int .i64 c.2.2.1, .int .i64 c.2.2.2] 53)) = .ok (.slice a (ar.length + 1) k) w' ∧ OwnArcs w' base (.slice a (ar.length + 1) k) (ar ++ [c]) ∧ Below base W w' ∧ (∀ j, W0.heap.size ≤ j → j < W.heap.size → w'.heap[j]? = W.heap[j]?) ∧ ∀ b cs T, Blk W b cs T → T ≠ 53 → Blk w' b cs T := by
  have h := h0.later hW
  obtain ⟨i1, hi1, hy0, hy1, hy2⟩ := info_parts infoArc
  have hB : Below W.heap.size W (W.alloc (.cells #[.int .i64 c.1, .int .i64 c.2.1, .int .i64 c.2.2.1, .int .i64 c.2.2.2] 53)) := (Below.refl _ _).alloc (Nat.le_refl _) _
  have hrow : Row 4 encA (W.alloc (.cells #[.int .i64 c.1, .int .i64 c.2.1, .int .i64 c.2.2.1, .int .i64 c.2.2.2] 53)) (.slice (some ⟨W.heap.size, 0, none⟩) 1 1) [c] := oneRow (enc := encA) W c rfl 53
  have hbW : base ≤ W.heap.size := Nat.le_trans hbase hW.size
  obtain ⟨v4, w4, r4, h4, g4, _⟩ := run_append_spot (P := Try.prog) encA_len (by decide) encA_one 44 44 base 53 i1 _ 32 Try.underlying44 hi1 hy0 hy1 hy2 rfl _ ar.length (ar.flatMap encA) (ownBelow h hB) _ [c] hrow (by simp; unfold maxLen; omega) (by simp; omega) (by simp; omega)
  obtain ⟨a, k, hv⟩ := own_sl h4
  subst hv
  refine ⟨a, k, w4, r4, by unfold OwnArcs; rw [List.length_append, List.flatMap_append]; exact h4, (hB.mono hbW).trans ((Below.refl _ _).grown g4 (by simp; omega) (fun k hk => (h.lt k hk).1)), fun j hj1 hj2 => ?_, fun b cs T hb hT => ?_⟩
  · refine (g4.block j (by rw [World.size_alloc]; omega) (fun e => ?_)).trans (hB.block j hj2)
    have := (h0.lt j e.symm).2
    omega
  · exact (hb.alloc _).grown g4 (own_ne h hb (Ne.symm hT))
theorem res_rem (tm : Array Value) (W : World) (R : Nat) (ec : Int) (x0 x1 : Value) (hB : Blk W R #[x0, x1] 24) (h2 : tm.getD 2 undef = .pointer (some ⟨R, 0, none⟩)) (h3 : tm.getD 3 undef = .int .i64 ec) : (results Try.f8 tm).run Try.prog W = .ok (.tuple #[.agg #[x0, x1], .int .i64 ec]) W := by
  have c0 := hB.cell 0 (v := x0) rfl
  have c1 := hB.cell 1 (v := x1) rfl
  simp only [Array.getD_eq_getD_getElem?] at h2 h3
  simp [results, Try.results8, go_sem, h2, h3, c0, c1]
set_option maxRecDepth 100000 in
theorem removed_bad (v : Value) (m : Mc) (w : World) (h : Mach w v m) (hok : okM m) (h0 : faultM m ≠ 0) :
    Calls Try.prog 8 #[v] w fun e w' => RatRes (0, []) (faultM m) w e w' := by
  obtain ⟨z, l⟩ := m
  obtain ⟨r, hr⟩ : ∃ r, faultM (z, l) = r := ⟨_, rfl⟩
  have HM : Hid (Mach w v (z, l)) := h
  have HK : Hid (okM (z, l)) := hok
  have HR : Hid (faultM (z, l) = r) := hr
  have h0' : (r != 0) = true := bne_iff_ne.2 (by rw [← hr]; exact h0)
  obtain ⟨vs, rfl, hS⟩ := h
  obtain ⟨a, cap, rfl⟩ := hS.sl
  rw [hr]
  clear hS hok hr h0
  go_enter Try.func8, Try.ntmps8
  go_wp2_with (first
    | (go_at_call 20; (with_reducible refine (fault_any _ (z, l) _ (HM.out.later (B := w.heap.size) (by go_grown) (Nat.le_refl _)) HK.out r HR.out).mono ?_); rintro e w1 ⟨rfl, hb⟩; obtain ⟨s1, b1, b2, hb1⟩ := boxedTwo hb (by simp); have HB1 : Hid (Below w.heap.size w w1) := hb1; have KR := hidP b2; have e0 := b2.cell 0 (v := .int .i64 0) rfl; have e1 := b2.cell 1 (v := .slice none 0 0) rfl; have g0 := b2.fz 0; have g1 := b2.fz 1; clear b1 b2 hb1 hb))
  exact bodyPost_ret (res_rem _ _ (w.heap.size + 1) r _ _ ((KR.out.set 0 (.int .i64 0)).set 1 (.slice none 0 0)) rfl rfl) rfl ⟨_, rfl, mach_zeroR _, (HB1.out.setCell (Nat.le_succ _) _).setCell (Nat.le_succ _) _⟩
/-- What is answered where the machine is right. -/
def remX (H : Nat → Nat → Int) (m : Mc) : Mc := if ovTo H m.2 m.2.length = true then (0, []) else fitM (remM H m)
def remY (H : Nat → Nat → Int) (m : Mc) : Int := if ovTo H m.2 m.2.length = true then 4 else fitE (remM H m)
def HeldW (A : Nat) (p0 p1 p2 p3 : Int) (G q : Nat) (vq : Value) (bq p : Nat) (c : Int) (w : World) : Prop := w.cell? ⟨A, 0, none⟩ = some (.int .i64 p0) ∧ w.cell? ⟨A, 1, none⟩ = some (.int .i64 p1) ∧ w.cell? ⟨A, 2, none⟩ = some (.int .i64 p2) ∧ w.cell? ⟨A, 3, none⟩ = some (.int .i64 p3) ∧ w.cell? ⟨G, q, none⟩ = some vq ∧ w.cell? ⟨bq, p, none⟩ = some (.int .i64 c)
set_option maxRecDepth 100000 in
set_option maxHeartbeats 12800000 in
theorem removed_ok (z : Int) (l : List St) (vs : Value) (w : World) (h : Mach w (.agg #[.int .i64 z, vs]) (z, l)) (hok : okM (z, l)) (hr : faultM (z, l) = 0) (H : Nat → Nat → Int) (hH : HopT (z, l) H) :
    Calls Try.prog 8 #[.agg #[.int .i64 z, vs]] w fun e w' => RatRes (remX H (z, l)) (remY H (z, l)) w e w' := by
  have HM : Hid (Mach w (.agg #[.int .i64 z, vs]) (z, l)) := h
  have HK : Hid (okM (z, l)) := hok
  have HR : Hid (faultM (z, l) = 0) := hr
  have h60 : l.length ≤ 60 := (right_size hr).1
  have h400 : arcN l ≤ 400 := (right_size hr).2
  obtain ⟨vs', hvs, hS⟩ := h
  simp only [Value.agg.injEq, Array.mk.injEq, List.cons.injEq, and_true, true_and] at hvs
  subst hvs
  obtain ⟨a, cap, rfl, hc⟩ := hS.get
  have HC : Hid (∀ j, j < l.length → ∃ b off va, a = some ⟨b, off, none⟩ ∧ b < w.heap.size ∧ w.cell? ⟨b, off + j * 2, none⟩ = some (.int .i64 (el l j).1) ∧ w.cell? ⟨b, off + j * 2 + 1, none⟩ = some va ∧ Arcs w va (el l j).2) := hc
  have HST : Hid (∀ j, j < l.length → (0 ≤ (el l j).1 ∧ (el l j).1 ≤ 1000000001) ∧ (el l j).2.length ≤ 400 ∧ ∀ i, i < (el l j).2.length → 0 ≤ (el (el l j).2 i).2.2.1 ∧ (el (el l j).2 i).2.2.1 ≤ 1000000000) := fun j hj => by
    have h1 := right_states hr j hj
    have h2 := h1.1
    simp only [finB, Bool.or_eq_true, inB, Bool.and_eq_true, decide_eq_true_eq, beq_iff_eq] at h2
    refine ⟨by omega, h1.2.1, fun i hi => ?_⟩
    have h3 := (right_parts hr).2 (el l j) (el_mem hj)
    simp only [stB, Bool.and_eq_true, List.all_eq_true] at h3
    have h4 := h3.2 _ (el_mem hi)
    simp only [arcB, inB, Bool.and_eq_true, decide_eq_true_eq] at h4
    omega
  have HHP : Hid (∀ W, Mach W (.agg #[.int .i64 z, .slice a l.length cap]) (z, l) → Calls Try.prog 21 #[.agg #[.int .i64 z, .slice a l.length cap]] W fun e w' => ∃ v gs d, e = .returned v ∧ GridM w' (W.heap.size + 1) l.length v gs d ∧ (d.length = l.length ∧ ∀ q p, q < l.length → p < l.length → el (el d q) p = H q p) ∧ Below W.heap.size W w') := fun W hW => by
    refine (hop_any z l a cap W hW hr).mono ?_
    rintro e w' ⟨v, gs, d, rfl, h1, ⟨h2, h3⟩, h4⟩
    exact ⟨v, gs, d, rfl, h1, ⟨h2, fun q p hq hp => (h3 q p hq hp).one (hH q p hq hp)⟩, h4⟩
  have HHB : Hid (∀ q p, q < l.length → p < l.length → 0 ≤ H q p ∧ (H q p = 1152921504606846976 ∨ H q p ≤ 100000000000)) := fun q p hq hp => (hH q p hq hp).bd
  have HRL : Hid (∀ q p, p ≤ l.length → (remArc H l q p).length ≤ 400) := fun q p hp => by
    have h1 := remArc_le H l q p hp
    have h2 := arcN_takeR l p
    omega
  have HF0 : Hid (∀ q, remFin H l q 0 = 1152921504606846976) := fun q => rfl
  have HFS : Hid (∀ q p, remFin H l q (p + 1) = if H q p ≠ noneI ∧ (el l p).1 ≠ 1000000001 ∧ H q p + (el l p).1 < remFin H l q p then H q p + (el l p).1 else remFin H l q p) := fun q p => rfl
  have HAS : Hid (∀ q p, remArc H l q (p + 1) = remArc H l q p ++ (if H q p = noneI then [] else remOf (H q p) (el l p).2)) := fun q p => rfl
  have HOV : Hid (∀ q, ovTo H l (q + 1) = (ovTo H l q || ovB H l q)) := fun q => rfl
  clear hS hc hr hok hH
  generalize hn : l.length = n at *
  have HN := hidP hn
  clear hn
  go_enter Try.func8, Try.ntmps8
  go_wp2_with (first
    | (go_at_call 20; (with_reducible refine (fault_any _ (z, l) _ (HM.out.later (B := w.heap.size) (by go_grown) (Nat.le_refl _)) HK.out 0 HR.out).mono ?_); rintro e w1 ⟨rfl, hb⟩; obtain ⟨s1, b1, b2, hb1⟩ := boxedTwo hb (by simp); have HB1 : Hid (Below w.heap.size w w1) := hb1; have KM := hidP b1; have KR := hidP b2; have m0 := b1.cell 0 (v := .int .i64 z) rfl; have m1 := b1.cell 1 (v := .slice a n cap) rfl; clear b1 b2 hb1 hb)
    | (go_at_call 21; (with_reducible refine (HHP.out _ (HM.out.later HB1.out (Nat.le_refl _))).mono ?_); clear HHP; rintro e w2 ⟨v2, gs, d, rfl, hG, hD, hb⟩; have HG := hidP hG; have HD := hidP hD; have HB2 := hidP (HB1.out.trans (hb.mono HB1.out.size)); have KM2 := hidP (KM.out.below hb KM.out.lt); have KR2 := hidP (KR.out.below hb KR.out.lt); have n0 := KM2.out.cell 0 (v := .int .i64 z) rfl; have n1 := KM2.out.cell 1 (v := .slice a n cap) rfl; have s2 := KR2.out.lt; have s3 := KM2.out.lt; clear hb hG hD m0 m1))
  obtain ⟨ag, cg, hv⟩ := HG.out.sl
  rw [HD.out.1] at hv
  subst hv
  clear n0 n1
  go_loopw [7, 8] (fun ov i wr => ∃ (q : Nat) (vo : Value) , q ≤ n ∧ i = .int .i64 q ∧ ov = .bool (ovTo H l q) ∧ Hid (OwnSts wr w2.heap.size vo ((List.range q).map (remS H l))) ∧ Hid (Blk wr w2.heap.size #[.int .i64 z, vo] 24) ∧ Hid (Below w2.heap.size w2 wr)) (fun _ i _ => n - (intOf i).toNat)
  case atStart => exact ⟨0, .slice none 0 0, Nat.zero_le _, rfl, rfl, OwnSts.nil _ _, Blk.made _ _ _, (Below.refl _ _).alloc (Nat.le_refl _) _⟩
  case round =>
    obtain ⟨q, vo, hq, rfl, rfl, hO, hOb, hb⟩ := hrel
    obtain ⟨w3, hw3⟩ : ∃ w3, w3 = wr := ⟨_, rfl⟩
    subst hw3
    have KM3 := hidP (KM2.out.below hb.out KM2.out.lt)
    have KR3 := hidP (KR2.out.below hb.out KR2.out.lt)
    have m0 := KM3.out.cell 0 (v := .int .i64 z) rfl
    have m1 := KM3.out.cell 1 (v := .slice a n cap) rfl
    obtain ⟨ov, hov⟩ : ∃ ov, ovTo H l q = ov := ⟨_, rfl⟩
    have HOVQ := hidP hov
    rw [hov]
    clear hov
    by_cases hlt : q < n
    · have q0 : (0 : Int) ≤ (q : Int) := by omega
      have q1 : (q : Int) < (n : Int) := by omega
      obtain ⟨Gb, cG, hve, _, hGl, hcs⟩ := HG.out.cells (by rw [HD.out.1]; omega)
      rw [HD.out.1] at hve hcs
      simp only [Value.slice.injEq, true_and] at hve
      obtain ⟨rfl, rfl⟩ := hve
      have HCQ : Hid (w2.cell? ⟨Gb, q, none⟩ = some (.slice (some ⟨el gs q, 0, none⟩) n n)) := hcs q hlt
      have HCP : Hid (∀ p, p < n → el gs q < w2.heap.size ∧ w2.cell? ⟨el gs q, p, none⟩ = some (.int .i64 (H q p))) := fun p hp => by
        have h9 := HG.out.get (q := q) (p := p) (by rw [HD.out.1]; exact hlt) hp
        rw [HD.out.2 q p hlt hp] at h9
        exact ⟨World.block_lt_of_cell? _ _ h9, h9⟩
      have GL := hidP hGl
      clear hcs hGl
      generalize el gs q = Bq at *
      go_wp2
      clear m0 m1
      go_loopw [9, 10, 11] (fun fv lv i wr => ∃ (p : Nat) (va : Value), p ≤ n ∧ i = .int .i64 p ∧ fv = .int .i64 (remFin H l q p) ∧ va = lv ∧ Hid (OwnArcs wr w3.heap.size va (remArc H l q p)) ∧ Hid (Below w3.heap.size w3 wr)) (fun _ _ i _ => n - (intOf i).toNat)
      case atStart => exact ⟨0, _, Nat.zero_le _, rfl, by rw [HF0.out], rfl, OwnArcs.nil _ _, Below.refl _ _⟩
      case round =>
        obtain ⟨p, va, hp, rfl, rfl, rfl, hA, hb4⟩ := hrel
        obtain ⟨w4, hw4⟩ : ∃ w4, w4 = wr := ⟨_, rfl⟩
        subst hw4
        have hb24 := hb.out.trans (hb4.out.mono hb.out.size)
        have HB24 := hidP hb24
        have m1 := (KM2.out.below hb24 KM2.out.lt).cell 1 (v := .slice a n cap) rfl
        obtain ⟨av, cv, hv⟩ := hA.out.sl
        subst hv
        by_cases hpl : p < n
        · have p0 : (0 : Int) ≤ (p : Int) := by omega
          have p1 : (p : Int) < (n : Int) := by omega
          have cq := (hb24.cell (p := ⟨Gb, q, none⟩) GL.out).trans HCQ.out
          obtain ⟨hbq, cp⟩ := HCP.out p hpl
          have CP2 := hidP cp
          have cp := (hb24.cell (p := ⟨Bq, p, none⟩) hbq).trans cp
          have HFp := hidP (HFS.out q p)
          have HAp := hidP (HAS.out q p)
          have r1 := HHB.out q p hlt hpl
          have hrl := HRL.out q p (by omega)
          obtain ⟨c, hcc⟩ : ∃ c, H q p = c := ⟨_, rfl⟩
          rw [hcc] at cp CP2 HFp HAp r1
          rw [noneI_eq] at HFp HAp
          clear hcc hb24
          by_cases hcn : c = 1152921504606846976
          · have hcn' : (c == 1152921504606846976) = true := by simpa using hcn
            have e1 : remFin H l q (p + 1) = remFin H l q p := by rw [HFp.out, if_neg (fun g => g.1 hcn)]
            have e2 : remArc H l q (p + 1) = remArc H l q p := by rw [HAp.out, if_pos hcn, List.append_nil]
            have E1 := hidP e1
            have E2 := hidP e2
            clear e1 e2 hcn HFp HAp
            generalize hL : (remArc H l q p).length = Ln at *
            go_wp2
            go_roundw
            case rel => exact ⟨p + 1, _, by omega, by go_num, by rw [E1.out], rfl, by rw [E2.out]; exact hA, hb4⟩
            case measure => simp [intOf]; omega
          · have hcn' : (c == 1152921504606846976) = false := by simpa using hcn
            have hc5 : c ≤ 100000000000 := by omega
            have hc0 : 0 ≤ c := r1.1
            obtain ⟨b, off, va2, rfl, hbl, g0, g1, gA⟩ := HC.out p hpl
            have hbw := HB2.out.trans (HB24.out.mono HB2.out.size)
            have g0 := (hbw.cell (p := ⟨b, off + p * 2, none⟩) hbl).trans g0
            have g1 := (hbw.cell (p := ⟨b, off + p * 2 + 1, none⟩) hbl).trans g1
            obtain ⟨a5, cap5, rfl, hc5'⟩ := gA.get
            have HC5 := hidP hc5'
            obtain ⟨⟨hf0, hf1⟩, hl4, hwt⟩ := HST.out p hpl
            have HWT := hidP hwt
            have HBW := hidP hbw
            have e2 : remArc H l q (p + 1) = remArc H l q p ++ remOf c (el l p).2 := by rw [HAp.out, if_neg hcn]
            have E2 := hidP e2
            have e1 : remFin H l q (p + 1) = if (el l p).1 ≠ 1000000001 ∧ c + (el l p).1 < remFin H l q p then c + (el l p).1 else remFin H l q p := by
              rw [HFp.out]
              by_cases g : (el l p).1 ≠ 1000000001 ∧ c + (el l p).1 < remFin H l q p
              · rw [if_pos ⟨hcn, g.1, g.2⟩, if_pos g]
              · rw [if_neg (fun x => g ⟨x.2.1, x.2.2⟩), if_neg g]
            have E1 := hidP e1
            clear e1 e2 HFp HAp gA hc5' hwt hbw r1 hcn
            obtain ⟨f, hf⟩ : ∃ f, (el l p).1 = f := ⟨_, rfl⟩
            rw [hf] at g0 hf0 hf1 E1
            clear hf
            obtain ⟨ar, har⟩ : ∃ ar, (el l p).2 = ar := ⟨_, rfl⟩
            rw [har] at g1 HC5 hl4 HWT E2
            clear har
            obtain ⟨F0, hF0⟩ : ∃ F0, remFin H l q p = F0 := ⟨_, rfl⟩
            rw [hF0] at E1 ⊢
            clear hF0
            obtain ⟨LA, hLA⟩ : ∃ LA, remArc H l q p = LA := ⟨_, rfl⟩
            rw [hLA] at hA E2 hrl ⊢
            clear hLA
            generalize hn5 : ar.length = n5 at *
            have HN5 := hidP hn5
            clear hn5
            generalize hL : LA.length = Ln at *
            have HLn := hidP hL
            clear hL
            have cs0 : w4.heap.size < w4.heap.size + 1 := by omega
            have hNA : Below w4.heap.size w4 (w4.alloc (.cells #[.int .i64 f, .slice a5 n5 cap5] 46)) := (Below.refl _ _).alloc (Nat.le_refl _) _
            have HKS := hidP (Blk.made w4 #[.int .i64 f, .slice a5 n5 cap5] 46)
            have cq5 := (hNA.cell (p := ⟨Gb, q, none⟩) (Nat.lt_of_lt_of_le GL.out HB24.out.size)).trans cq
            have cp5 := (hNA.cell (p := ⟨Bq, p, none⟩) (Nat.lt_of_lt_of_le hbq HB24.out.size)).trans cp
            have HNA := hidP hNA
            have kS := HKS.out.cell 0 (v := .int .i64 f) rfl
            go_upto_region 17 with fail
            go_cut [74] (fun t wx => t = .bool (decide (f ≠ 1000000001 ∧ c + f < F0)) ∧ Hid (Below w4.heap.size w4 wx) ∧ Hid (Blk wx w4.heap.size #[.int .i64 f, .slice a5 n5 cap5] 46))
            case first =>
              by_cases hfi : f = 1000000001
              · have hfi' : (f != 1000000001) = false := by simp [hfi]
                have ht : decide (f ≠ 1000000001 ∧ c + f < F0) = false := by simp [hfi]
                have HTT := hidP ht
                clear hfi ht
                go_quiet (fail)
                go_wp2
                go_meet
                case rel => exact ⟨by rw [HTT.out], below_drewN HNA.out _, HKS.out.drewN _⟩
              · have hfi' : (f != 1000000001) = true := by simpa using hfi
                have hwr : IntKind.i64.wrap (c + f) = c + f := wrapI (by omega) (by omega)
                by_cases hlf : c + f < F0
                · have ht : decide (f ≠ 1000000001 ∧ c + f < F0) = true := by simp [hfi, hlf]
                  have HTT := hidP ht
                  clear hfi ht
                  go_quiet (fail)
                  go_wp2
                  go_meet
                  case rel => exact ⟨by rw [HTT.out], below_drewN HNA.out _, HKS.out.drewN _⟩
                · have ht : decide (f ≠ 1000000001 ∧ c + f < F0) = false := by simp [hfi, hlf]
                  have HTT := hidP ht
                  clear hfi ht
                  go_quiet (fail)
                  go_wp2
                  go_meet
                  case rel => exact ⟨by rw [HTT.out], below_drewN HNA.out _, HKS.out.drewN _⟩
            case rest =>
              obtain ⟨rfl, hb5, hK5⟩ := hcut
              obtain ⟨w5, hw5⟩ : ∃ w5, w5 = wc := ⟨_, rfl⟩
              subst hw5
              clear HNA HKS kS cq5 cp5 hNA
              have cq5 := (hb5.out.cell (p := ⟨Gb, q, none⟩) (Nat.lt_of_lt_of_le GL.out HB24.out.size)).trans cq
              have cp5 := (hb5.out.cell (p := ⟨Bq, p, none⟩) (Nat.lt_of_lt_of_le hbq HB24.out.size)).trans cp
              have kS := hK5.out.cell 0 (v := .int .i64 f) rfl
              go_upto_if 74 with fail
              go_cut [9] (fun t wx => t = .int .i64 (remFin H l q (p + 1)) ∧ Hid (Below w4.heap.size w4 wx) ∧ Hid (Blk wx w4.heap.size #[.int .i64 f, .slice a5 n5 cap5] 46))
              case first =>
                by_cases hg : f ≠ 1000000001 ∧ c + f < F0
                · have ht : decide (f ≠ 1000000001 ∧ c + f < F0) = true := decide_eq_true hg
                  rw [ht]
                  have hwr : IntKind.i64.wrap (c + f) = c + f := wrapI (by omega) (by omega)
                  have hE : remFin H l q (p + 1) = c + f := by rw [E1.out, if_pos hg]
                  have HE := hidP hE
                  clear ht hg hE
                  go_wp2
                  go_quiet (fail)
                  go_wp2
                  go_meet
                  case rel => exact ⟨by rw [HE.out], below_drewN hb5.out _, hK5.out.drewN _⟩
                · have ht : decide (f ≠ 1000000001 ∧ c + f < F0) = false := decide_eq_false hg
                  rw [ht]
                  have hE : remFin H l q (p + 1) = F0 := by rw [E1.out, if_neg hg]
                  have HE := hidP hE
                  clear ht hg hE
                  go_wp2
                  go_meet
                  case rel => exact ⟨by rw [HE.out], hb5, hK5⟩
              case rest =>
                obtain ⟨rfl, hb6, hK6⟩ := hcut
                obtain ⟨w6, hw6⟩ : ∃ w6, w6 = wc := ⟨_, rfl⟩
                subst hw6
                clear hb5 hK5 cq5 cp5 kS
                have HA6 := hidP (hA.out.later hb6.out)
                have hs6 := hK6.out.lt
                have HB36 := hidP (hb4.out.trans (hb6.out.mono hb4.out.size))
                have HT0 : Hid (LA = LA ++ remOf c (ar.take 0)) := by show _ = _; simp [remOf]
                have HTS : Hid (∀ i, i < n5 → LA ++ remOf c (ar.take (i + 1)) = (LA ++ remOf c (ar.take i)) ++ (if empA (el ar i) = true then [] else [hwA c (el ar i)])) := fun i hi => by rw [remOf_take (by rw [HN5.out]; exact hi), List.append_assoc]
                have HTE : Hid (LA ++ remOf c (ar.take n5) = remArc H l q (p + 1)) := by show _ = _; rw [E2.out, ← HN5.out, List.take_length]
                have HLB : Hid (∀ i, (LA ++ remOf c (ar.take i)).length ≤ 1000) := fun i => by
                  have h1 := remOf_le c (ar.take i)
                  have h2 : (ar.take i).length ≤ n5 := by rw [List.length_take, HN5.out]; omega
                  rw [List.length_append, HLn.out]
                  omega
                obtain ⟨F1, hF1⟩ : ∃ F1, remFin H l q (p + 1) = F1 := ⟨_, rfl⟩
                have HF1 := hidP hF1
                rw [hF1]
                clear hF1 E1
                go_wp2
                go_loopw [10, 13] (fun lv iv wr => ∃ (i : Nat) (va : Value) (Lc : List Ar), i ≤ n5 ∧ iv = .int .i64 i ∧ va = lv ∧ Hid (Lc = LA ++ remOf c (ar.take i)) ∧ Hid (OwnArcs wr w3.heap.size va Lc) ∧ Hid (Blk wr w4.heap.size #[.int .i64 f, .slice a5 n5 cap5] 46) ∧ Hid (Below w3.heap.size w3 wr)) (fun _ i _ => n5 - (intOf i).toNat)
                case atStart => exact ⟨0, _, LA, Nat.zero_le _, rfl, rfl, HT0, HA6, hK6, HB36⟩
                case round =>
                  clear HT0 HA6 hK6 HB36 hb6 hs6
                  obtain ⟨i, va, Lc, hi, rfl, rfl, hLc, hA7, hK7, hb7⟩ := hrel
                  obtain ⟨w7, hw7⟩ : ∃ w7, w7 = wr := ⟨_, rfl⟩
                  subst hw7
                  obtain ⟨a7, c7, hv⟩ := hA7.out.sl
                  have hLl : Lc.length ≤ 1000 := by rw [hLc.out]; exact HLB.out i
                  have hs1 := hK7.out.cell 1 (v := .slice a5 n5 cap5) rfl
                  have sS := hK7.out.lt
                  by_cases hil : i < n5
                  · have i0 : (0 : Int) ≤ (i : Int) := by omega
                    have i1 : (i : Int) < (n5 : Int) := by omega
                    obtain ⟨b6, o6, rfl, hb6l, p0c, p1c, p2c, p3c⟩ := HC5.out i hil
                    have hb27 := hb.out.trans (hb7.out.mono hb.out.size)
                    have hbw7 := HB2.out.trans (hb27.mono HB2.out.size)
                    have p0c := (hbw7.cell (p := ⟨b6, o6 + i * 4, none⟩) hb6l).trans p0c
                    have p1c := (hbw7.cell (p := ⟨b6, o6 + i * 4 + 1, none⟩) hb6l).trans p1c
                    have p2c := (hbw7.cell (p := ⟨b6, o6 + i * 4 + 2, none⟩) hb6l).trans p2c
                    have p3c := (hbw7.cell (p := ⟨b6, o6 + i * 4 + 3, none⟩) hb6l).trans p3c
                    have hw01 := HWT.out i hil
                    have HTI := hidP (HTS.out i hil)
                    have HB27 := hidP hb27
                    have HBW7 := hidP hbw7
                    clear hb27 hbw7
                    obtain ⟨pp, hpp⟩ : ∃ pp, el ar i = pp := ⟨_, rfl⟩
                    rw [hpp] at p0c p1c p2c p3c hw01 HTI
                    clear hpp
                    obtain ⟨x0, x1, x2, x3⟩ := pp
                    simp only at p0c p1c p2c p3c hw01
                    have hwr : IntKind.i64.wrap (c + x2) = c + x2 := wrapI (by omega) (by omega)
                    subst hv
                    rcases Bool.eq_false_or_eq_true (empA (x0, x1, x2, x3)) with he | he
                    · have HE := hidP he
                      have hT1 : LA ++ remOf c (ar.take (i + 1)) = Lc := by rw [HTI.out, if_pos he, List.append_nil, hLc.out]
                      have HT1 := hidP hT1
                      clear hT1 he
                      generalize hL7 : Lc.length = L7 at *
                      go_wp2_with (first | (go_at_call 22; (with_reducible refine (emp_any _ _ _ _ _ _ HE.out).mono ?_); rintro e w8 ⟨rfl, hb8⟩; obtain ⟨s8, kA, hb8'⟩ := boxed hb8 (by simp); have HB8 := hidP hb8'; clear hb8 hb8' kA))
                      go_roundw
                      case rel => exact ⟨i + 1, _, Lc, by omega, by go_num, rfl, HT1.out.symm, hA7.out.later HB8.out, hK7.out.below HB8.out sS, hb7.out.trans (HB8.out.mono hb7.out.size)⟩
                      case measure => simp [intOf]; omega
                    · have HE := hidP he
                      have hT1 : LA ++ remOf c (ar.take (i + 1)) = Lc ++ [(x0, x1, c + x2, x3)] := by rw [HTI.out, if_neg (by rw [he]; simp), hLc.out]; rfl
                      have HT1 := hidP hT1
                      clear hT1 he
                      have HPK := hidP (fun W hW => hA7.out.pushK (W := W) hW (x0, x1, c + x2, x3) (by omega) hb7.out.size)
                      generalize hL7 : Lc.length = L7 at *
                      go_wp2_with (first | (go_at_call 22; (with_reducible refine (emp_any _ _ _ _ _ _ HE.out).mono ?_); rintro e w8 ⟨rfl, hb8⟩; obtain ⟨s8, kA, hb8'⟩ := boxed hb8 (by simp); have HB8 := hidP hb8'; have KA := hidP kA; clear hb8 hb8' kA))
                      obtain ⟨a9, k9, w9, hr9, ho9, hb9, hu9, hk9⟩ := HPK.out w8.drew HB8.out.drew
                      have hb28 := HB27.out.trans (HB8.out.mono HB27.out.size)
                      have cq8 := (hb28.cell (p := ⟨Gb, q, none⟩) GL.out).trans HCQ.out
                      have cp8 := (hb28.cell (p := ⟨Bq, p, none⟩) hbq).trans CP2.out
                      have s78 : w7.heap.size < w8.heap.size := KA.out.lt
                      have HS : HeldW w7.heap.size x0 x1 x2 x3 Gb q (.slice (some ⟨Bq, 0, none⟩) n n) Bq p c w8.drew := ⟨KA.out.cell 0 rfl, KA.out.cell 1 rfl, KA.out.cell 2 rfl, KA.out.cell 3 rfl, cq8, cp8⟩
                      have hA8 : Below w8.drew.heap.size w8.drew (w8.drew.alloc (.cells #[.int .i64 x0, .int .i64 x1, .int .i64 (c + x2), .int .i64 x3] 53)) := (Below.refl _ _).alloc (Nat.le_refl _) _
                      have HSA : HeldW w7.heap.size x0 x1 x2 x3 Gb q (.slice (some ⟨Bq, 0, none⟩) n n) Bq p c (w8.drew.alloc (.cells #[.int .i64 x0, .int .i64 x1, .int .i64 (c + x2), .int .i64 x3] 53)) := by
                        have kk := KA.out.drew.alloc (.cells #[.int .i64 x0, .int .i64 x1, .int .i64 (c + x2), .int .i64 x3] 53)
                        exact ⟨kk.cell 0 rfl, kk.cell 1 rfl, kk.cell 2 rfl, kk.cell 3 rfl, (hA8.cell (World.block_lt_of_cell? _ _ HS.2.2.2.2.1)).trans HS.2.2.2.2.1, (hA8.cell (World.block_lt_of_cell? _ _ HS.2.2.2.2.2)).trans HS.2.2.2.2.2⟩
                      have HS9 : HeldW w7.heap.size x0 x1 x2 x3 Gb q (.slice (some ⟨Bq, 0, none⟩) n n) Bq p c w9 := by
                        have kk : Blk w9 w7.heap.size #[.int .i64 x0, .int .i64 x1, .int .i64 x2, .int .i64 x3] 53 := KA.out.drew.keep (hu9 _ (Nat.le_refl _) s78)
                        exact ⟨kk.cell 0 rfl, kk.cell 1 rfl, kk.cell 2 rfl, kk.cell 3 rfl, (hb9.cell (p := ⟨Gb, q, none⟩) (Nat.lt_of_lt_of_le GL.out hb.out.size)).trans cq8, (hb9.cell (p := ⟨Bq, p, none⟩) (Nat.lt_of_lt_of_le hbq hb.out.size)).trans cp8⟩
                      have R9 := hidP hr9
                      have HO9 := hidP ho9
                      have HK9 := hidP (hk9 _ _ _ ((hK7.out.below HB8.out sS).drew) (by decide))
                      have HB9 := hidP (hb7.out.trans ((HB8.out.drew.mono hb7.out.size).trans hb9))
                      clear hr9 ho9 hb9 hu9 hk9 cq8 cp8 hA8
                      refine region_anyL (HeldW w7.heap.size x0 x1 x2 x3 Gb q (.slice (some ⟨Bq, 0, none⟩) n n) Bq p c) 100 (by kernel_rfl) ?_
                      refine anyL_take (i := 0) (v := ?v0_1) at0 (by kernel_rfl) (by kernel_rfl) (by kernel_rfl) (by kernel_rfl) (fun _ _ _ h => h) rfl ?y0_1 HS ?r0_1
                      case y0_1 => intro wx hx; obtain ⟨h0, h1, h2, h3, h4, h5⟩ := hx; go_simp; try (with_reducible rfl)
                      simp only [Act.put, List.setIfInBounds_toArray, List.set_cons_zero, List.set_cons_succ]
                      refine anyL_take (i := 1) (v := ?v1_2) (atS at0) (by kernel_rfl) (by kernel_rfl) (by kernel_rfl) (by kernel_rfl) (fun _ _ _ h => h) rfl ?y1_2 HS ?r1_2
                      case y1_2 => intro wx hx; obtain ⟨h0, h1, h2, h3, h4, h5⟩ := hx; go_simp; try (with_reducible rfl)
                      simp only [Act.put, List.setIfInBounds_toArray, List.set_cons_zero, List.set_cons_succ]
                      refine anyL_take (i := 2) (v := ?v2_3) (atS (atS at0)) (by kernel_rfl) (by kernel_rfl) (by kernel_rfl) (by kernel_rfl) (fun _ _ _ h => h) rfl ?y2_3 HS ?r2_3
                      case y2_3 => intro wx hx; obtain ⟨h0, h1, h2, h3, h4, h5⟩ := hx; go_simp; try (with_reducible rfl)
                      simp only [Act.put, List.setIfInBounds_toArray, List.set_cons_zero, List.set_cons_succ]
                      refine anyL_take (i := 3) (v := ?v3_4) (atS (atS (atS at0))) (by kernel_rfl) (by kernel_rfl) (by kernel_rfl) (by kernel_rfl) (fun _ _ _ h => h) rfl ?y3_4 HS ?r3_4
                      case y3_4 => intro wx hx; obtain ⟨h0, h1, h2, h3, h4, h5⟩ := hx; go_simp; try (with_reducible rfl)
                      simp only [Act.put, List.setIfInBounds_toArray, List.set_cons_zero, List.set_cons_succ]
                      refine anyL_take (i := 4) (v := ?v4_5) (atS (atS (atS (atS at0)))) (by kernel_rfl) (by kernel_rfl) (by kernel_rfl) (by kernel_rfl) (fun _ _ _ h => h) rfl ?y4_5 HS ?r4_5
                      case y4_5 => intro wx hx; obtain ⟨h0, h1, h2, h3, h4, h5⟩ := hx; go_simp; try (with_reducible rfl)
                      simp only [Act.put, List.setIfInBounds_toArray, List.set_cons_zero, List.set_cons_succ]
                      refine anyL_take (i := 5) (v := ?v5_6) (atS (atS (atS (atS (atS at0))))) (by kernel_rfl) (by kernel_rfl) (by kernel_rfl) (by kernel_rfl) (fun _ _ _ h => h) rfl ?y5_6 HS ?r5_6
                      case y5_6 => intro wx hx; obtain ⟨h0, h1, h2, h3, h4, h5⟩ := hx; go_simp; try (with_reducible rfl)
                      simp only [Act.put, List.setIfInBounds_toArray, List.set_cons_zero, List.set_cons_succ]
                      refine anyL_take (i := 6) (v := ?v6_7) (atS (atS (atS (atS (atS (atS at0)))))) (by kernel_rfl) (by kernel_rfl) (by kernel_rfl) (by kernel_rfl) (fun _ _ _ h => h) rfl ?y6_7 HS ?r6_7
                      case y6_7 => intro wx hx; obtain ⟨h0, h1, h2, h3, h4, h5⟩ := hx; go_simp; try (with_reducible rfl)
                      simp only [Act.put, List.setIfInBounds_toArray, List.set_cons_zero, List.set_cons_succ]
                      refine anyL_take (i := 7) (v := ?v7_8) (atS (atS (atS (atS (atS (atS (atS at0))))))) (by kernel_rfl) (by kernel_rfl) (by kernel_rfl) (by kernel_rfl) (fun _ _ _ h => h) rfl ?y7_8 HS ?r7_8
                      case y7_8 => intro wx hx; obtain ⟨h0, h1, h2, h3, h4, h5⟩ := hx; go_simp; try (with_reducible rfl)
                      simp only [Act.put, List.setIfInBounds_toArray, List.set_cons_zero, List.set_cons_succ]
                      refine anyL_take (i := 8) (v := ?v8_9) (atS (atS (atS (atS (atS (atS (atS (atS at0)))))))) (by kernel_rfl) (by kernel_rfl) (by kernel_rfl) (by kernel_rfl) (fun _ _ _ h => h) rfl ?y8_9 HS ?r8_9
                      case y8_9 => intro wx hx; obtain ⟨h0, h1, h2, h3, h4, h5⟩ := hx; go_simp; try (with_reducible rfl)
                      simp only [Act.put, List.setIfInBounds_toArray, List.set_cons_zero, List.set_cons_succ]
                      refine anyL_take (i := 9) (v := ?v9_10) (atS (atS (atS (atS (atS (atS (atS (atS (atS at0))))))))) (by kernel_rfl) (by kernel_rfl) (by kernel_rfl) (by kernel_rfl) (fun _ _ _ h => h) rfl ?y9_10 HS ?r9_10
                      case y9_10 => intro wx hx; obtain ⟨h0, h1, h2, h3, h4, h5⟩ := hx; go_simp; try (with_reducible rfl)
                      simp only [Act.put, List.setIfInBounds_toArray, List.set_cons_zero, List.set_cons_succ]
                      refine anyL_take (i := 10) (v := ?v10_11) (atS (atS (atS (atS (atS (atS (atS (atS (atS (atS at0)))))))))) (by kernel_rfl) (by kernel_rfl) (by kernel_rfl) (by kernel_rfl) (fun _ _ _ h => h) rfl ?y10_11 HS ?r10_11
                      case y10_11 => intro wx hx; obtain ⟨h0, h1, h2, h3, h4, h5⟩ := hx; go_simp; try (with_reducible rfl)
                      simp only [Act.put, List.setIfInBounds_toArray, List.set_cons_zero, List.set_cons_succ]
                      refine anyL_take (i := 11) (v := ?v11_12) (atS (atS (atS (atS (atS (atS (atS (atS (atS (atS (atS at0))))))))))) (by kernel_rfl) (by kernel_rfl) (by kernel_rfl) (by kernel_rfl) (fun _ _ _ h => h) rfl ?y11_12 HS ?r11_12
                      case y11_12 => intro wx hx; obtain ⟨h0, h1, h2, h3, h4, h5⟩ := hx; go_simp; try (with_reducible rfl)
                      simp only [Act.put, List.setIfInBounds_toArray, List.set_cons_zero, List.set_cons_succ]
                      refine anyL_take (i := 12) (v := ?v12_13) (atS (atS (atS (atS (atS (atS (atS (atS (atS (atS (atS (atS at0)))))))))))) (by kernel_rfl) (by kernel_rfl) (by kernel_rfl) (by kernel_rfl) (fun _ _ _ h => h) rfl ?y12_13 HS ?r12_13
                      case y12_13 => intro wx hx; obtain ⟨h0, h1, h2, h3, h4, h5⟩ := hx; go_simp; try (with_reducible rfl)
                      simp only [Act.put, List.setIfInBounds_toArray, List.set_cons_zero, List.set_cons_succ]
                      refine anyL_take (i := 13) (v := ?v13_14) (atS (atS (atS (atS (atS (atS (atS (atS (atS (atS (atS (atS (atS at0))))))))))))) (by kernel_rfl) (by kernel_rfl) (by kernel_rfl) (by kernel_rfl) (fun _ _ _ h => h) rfl ?y13_14 HS ?r13_14
                      case y13_14 => intro wx hx; obtain ⟨h0, h1, h2, h3, h4, h5⟩ := hx; go_simp; try (with_reducible rfl)
                      simp only [Act.put, List.setIfInBounds_toArray, List.set_cons_zero, List.set_cons_succ]
                      refine anyL_take (i := 14) (v := ?v14_15) (atS (atS (atS (atS (atS (atS (atS (atS (atS (atS (atS (atS (atS (atS at0)))))))))))))) (by kernel_rfl) (by kernel_rfl) (by kernel_rfl) (by kernel_rfl) (fun _ _ _ h => h) rfl ?y14_15 HS ?r14_15
                      case y14_15 => intro wx hx; obtain ⟨h0, h1, h2, h3, h4, h5⟩ := hx; go_simp; try (with_reducible rfl)
                      simp only [Act.put, List.setIfInBounds_toArray, List.set_cons_zero, List.set_cons_succ]
                      refine anyL_take (i := 15) (v := ?v15_16) (atS (atS (atS (atS (atS (atS (atS (atS (atS (atS (atS (atS (atS (atS (atS at0))))))))))))))) (by kernel_rfl) (by kernel_rfl) (by kernel_rfl) (by kernel_rfl) (fun _ _ _ h => h) rfl ?y15_16 HS ?r15_16
                      case y15_16 => intro wx hx; obtain ⟨h0, h1, h2, h3, h4, h5⟩ := hx; go_simp; try (with_reducible rfl)
                      simp only [Act.put, List.setIfInBounds_toArray, List.set_cons_zero, List.set_cons_succ]
                      refine anyL_take (i := 16) (v := ?v16_17) (atS (atS (atS (atS (atS (atS (atS (atS (atS (atS (atS (atS (atS (atS (atS (atS at0)))))))))))))))) (by kernel_rfl) (by kernel_rfl) (by kernel_rfl) (by kernel_rfl) (fun _ _ _ h => h) rfl ?y16_17 HS ?r16_17
                      case y16_17 => intro wx hx; obtain ⟨h0, h1, h2, h3, h4, h5⟩ := hx; go_simp; try (with_reducible rfl)
                      simp only [Act.put, List.setIfInBounds_toArray, List.set_cons_zero, List.set_cons_succ]
                      refine anyL_take (i := 17) (v := ?v17_18) (atS (atS (atS (atS (atS (atS (atS (atS (atS (atS (atS (atS (atS (atS (atS (atS (atS at0))))))))))))))))) (by kernel_rfl) (by kernel_rfl) (by kernel_rfl) (by kernel_rfl) (fun _ _ _ h => h) rfl ?y17_18 HS ?r17_18
                      case y17_18 => intro wx hx; obtain ⟨h0, h1, h2, h3, h4, h5⟩ := hx; go_simp; try (with_reducible rfl)
                      simp only [Act.put, List.setIfInBounds_toArray, List.set_cons_zero, List.set_cons_succ]
                      refine anyL_one (i := 18) (atS (atS (atS (atS (atS (atS (atS (atS (atS (atS (atS (atS (atS (atS (atS (atS (atS (atS at0)))))))))))))))))) (by kernel_rfl) rfl (fun K hK => ?_)
                      go_simp
                      refine hK _ _ (.inr HSA) ?_
                      try simp only [Act.put, List.setIfInBounds_toArray, List.set_cons_zero, List.set_cons_succ]
                      refine anyL_one (i := 19) (atS (atS (atS (atS (atS (atS (atS (atS (atS (atS (atS (atS (atS (atS (atS (atS (atS (atS (atS at0))))))))))))))))))) (by kernel_rfl) rfl (fun K hK => ?_)
                      refine wp_append_run (.tmp 100) (.tmp 118) 44 rfl rfl rfl R9.out ?_
                      refine hK _ _ (.inr HS9) ?_
                      try simp only [Act.put, List.setIfInBounds_toArray, List.set_cons_zero, List.set_cons_succ]
                      refine anyL_one (i := 20) (atS (atS (atS (atS (atS (atS (atS (atS (atS (atS (atS (atS (atS (atS (atS (atS (atS (atS (atS (atS at0)))))))))))))))))))) (by kernel_rfl) rfl (fun K hK => ?_)
                      go_simp
                      refine hK _ _ (.inr HS9) (anyL_done (by kernel_rfl) (NoPanic.normal ?_))
                      try simp only [Act.put, List.setIfInBounds_toArray, List.set_cons_zero, List.set_cons_succ]
                      clear HS HSA HS9
                      go_wp2
                      go_roundw
                      case rel => exact ⟨i + 1, _, Lc ++ [(x0, x1, c + x2, x3)], by omega, by go_num, rfl, HT1.out.symm, HO9, HK9, HB9⟩
                      case measure => simp [intOf]; omega
                  · have i1 : ¬ (i : Int) < (n5 : Int) := by omega
                    obtain rfl : n5 = i := by omega
                    have HLE : Hid (Lc = remArc H l q (p + 1)) := by show _ = _; rw [hLc.out, HTE.out]
                    subst hv
                    generalize hL7 : Lc.length = L7 at *
                    go_wp2
                    go_roundw
                    case rel => exact ⟨p + 1, _, by omega, by go_num, by rw [HF1.out], rfl, by rw [← HLE.out]; exact hA7, hb7⟩
                    case measure => simp [intOf]; omega
        · have p1 : ¬ (p : Int) < (n : Int) := by omega
          obtain rfl : n = p := by omega
          have HRLQ : Hid (lightL (ordL (remArc H l q n)) = remL H l q) := by show _ = _; unfold remL; rw [HN.out, sortS_false]
          have HOB : Hid (ovB H l q = (decide (tldE (remFin H l q n) ≠ 0) || (remL H l q).any bigA)) := by show _ = _; unfold ovB; rw [HN.out]
          have HRS : Hid (remS H l q = (tldN (remFin H l q n), remL H l q)) := by show _ = _; unfold remS; rw [HN.out]
          have HOQ := hidP (HOV.out q)
          rw [HOVQ.out, HOB.out] at HOQ
          have hl4 := HRL.out q n (Nat.le_refl _)
          have hol := ordL_length (remArc H l q n)
          have HC1 : Hid (∀ W v, Arcs W v (remArc H l q n) → Calls Try.prog 24 #[v] W fun e w' => ∃ v', e = .returned v' ∧ OwnArcs w' W.heap.size v' (ordL (remArc H l q n)) ∧ Below W.heap.size W w') := fun W v hv => refInOrder_any v _ W hv (by omega)
          have HC2 : Hid (∀ W v, Arcs W v (ordL (remArc H l q n)) → Calls Try.prog 23 #[v] W fun e w' => ∃ v', e = .returned v' ∧ OwnArcs w' W.heap.size v' (remL H l q) ∧ Below W.heap.size W w') := fun W v hv => by
            rw [← HRLQ.out]
            exact lightest_any v _ W hv (by omega)
          have HC3 : Hid (∀ W, Calls Try.prog 25 #[.int .i64 (remFin H l q n)] W fun e w' => e = .returned (.tuple #[.int .i64 (tldN (remFin H l q n)), .int .i64 (tldE (remFin H l q n))]) ∧ W = w') := fun W => told_ans _ W
          have hRl : (remL H l q).length ≤ 400 := by
            have := remL_le H l q
            omega
          have HAR := hidP hA.out.arcs
          have HR1 := hidP (remS_snoc H l q)
          rw [HRS.out] at HR1
          clear HRLQ HOB HRS hol hA
          generalize tldN (remFin H l q n) = fn at *
          generalize tldE (remFin H l q n) = fe at *
          generalize remFin H l q n = F0 at *
          generalize ordL (remArc H l q n) = LO at *
          generalize remArc H l q n = LA at *
          generalize remL H l q = RL at *
          generalize hL : LA.length = Ln at *
          clear hL
          generalize hn5 : RL.length = n5 at *
          have HN5 := hidP hn5
          clear hn5
          go_upto_region 27 with (first
            | (go_at_call 24; (with_reducible refine (HC1.out _ _ HAR.out).mono ?_); rintro e w5 ⟨v5, rfl, ho5, hb5⟩; have HO5 := hidP ho5.arcs; have HB5 := hidP hb5; clear ho5 hb5)
            | (go_at_call 23; (with_reducible refine (HC2.out _ _ HO5.out).mono ?_); rintro e w6 ⟨v6, rfl, ho6, hb6⟩; obtain ⟨a6, c6, hv6⟩ := ho6.sl; rw [HN5.out] at hv6; subst hv6; have HO6 := hidP ho6; have HB6 := hidP (HB5.out.trans (hb6.mono HB5.out.size)); have s56 := HB5.out.size; clear ho6 hb6)
            | (go_at_call 25; (with_reducible refine (HC3.out _).mono ?_); rintro e w' ⟨rfl, rfl⟩))
          go_cut [7] (fun t wx => t = .bool (ov || decide (fe ≠ 0)) ∧ wx = w6)
          case first =>
            cases ov
            · by_cases hfe : fe = 0
              · have hfe' : (fe != 0) = false := by simp [hfe]
                go_wp2
                go_meet
                case rel => exact ⟨by simp [hfe], rfl⟩
              · have hfe' : (fe != 0) = true := by simpa using hfe
                go_wp2
                go_meet
                case rel => exact ⟨by simp [hfe], rfl⟩
            · go_wp2
              go_meet
              case rel => exact ⟨by simp, rfl⟩
          case rest =>
            obtain ⟨rfl, hwc⟩ := hcut
            replace hwc := hwc.symm
            subst hwc
            obtain ⟨ov1, hov1⟩ : ∃ ov1, (ov || decide (fe ≠ 0)) = ov1 := ⟨_, rfl⟩
            have HOQ' : Hid (ovTo H l (q + 1) = (ov1 || RL.any bigA)) := by show _ = _; rw [HOQ.out, ← hov1, Bool.or_assoc]
            rw [hov1]
            clear hov1 HOQ
            obtain ⟨_, _, e6, g6⟩ := HO6.out.arcs.get
            rw [HN5.out] at e6 g6
            simp only [Value.slice.injEq, true_and] at e6
            obtain ⟨rfl, rfl⟩ := e6
            have G6 := hidP g6
            have HAT : Hid (∀ i, i < n5 → (ov1 || (RL.take (i + 1)).any bigA) = ((ov1 || (RL.take i).any bigA) || decide (1000000000 < (el RL i).2.2.1))) := fun i hi => by rw [any_take (by rw [HN5.out]; exact hi), Bool.or_assoc]; rfl
            have HAE : Hid ((ov1 || (RL.take n5).any bigA) = ovTo H l (q + 1)) := by show _ = _; rw [HOQ'.out, ← HN5.out, List.take_length]
            clear g6 HOQ'
            go_wp2
            go_loopw [7, 17] (fun t iv wr => ∃ i : Nat, i ≤ n5 ∧ iv = .int .i64 i ∧ t = .bool (ov1 || (RL.take i).any bigA) ∧ wr = w6) (fun _ i _ => n5 - (intOf i).toNat)
            case atStart => exact ⟨0, Nat.zero_le _, rfl, by simp, rfl⟩
            case round =>
              obtain ⟨i, hi, rfl, rfl, hwr⟩ := hrel
              replace hwr := hwr.symm
              subst hwr
              by_cases hil : i < n5
              · have i0 : (0 : Int) ≤ (i : Int) := by omega
                have i1 : (i : Int) < (n5 : Int) := by omega
                obtain ⟨b7, o7, rfl, hb7l, _, _, x2c, _⟩ := G6.out i hil
                have HAi := hidP (HAT.out i hil)
                generalize (el RL i).2.2.1 = x2 at *
                obtain ⟨bv, hbv⟩ : ∃ bv, (ov1 || (RL.take i).any bigA) = bv := ⟨_, rfl⟩
                rw [hbv] at HAi ⊢
                clear hbv
                cases bv
                · by_cases hx : 1000000000 < x2
                  · have hd : decide (1000000000 < x2) = true := decide_eq_true hx
                    have hx' : x2 > 1000000000 := hx
                    go_wp2
                    go_roundw
                    case rel => exact ⟨i + 1, by omega, by go_num, by rw [HAi.out]; simp [hd], (by simp)⟩
                    case measure => simp [intOf]; omega
                  · have hd : decide (1000000000 < x2) = false := decide_eq_false hx
                    have hx' : ¬ x2 > 1000000000 := hx
                    go_wp2
                    go_roundw
                    case rel => exact ⟨i + 1, by omega, by go_num, by rw [HAi.out]; simp [hd], (by simp)⟩
                    case measure => simp [intOf]; omega
                · go_wp2
                  go_roundw
                  case rel => exact ⟨i + 1, by omega, by go_num, by rw [HAi.out]; simp, (by simp)⟩
                  case measure => simp [intOf]; omega
              · have i1 : ¬ (i : Int) < (n5 : Int) := by omega
                obtain rfl : n5 = i := by omega
                rw [HAE.out]
                have hb36 := hb4.out.trans (HB6.out.mono hb4.out.size)
                have hO6' := hO.out.laterB hb36
                have hOb6 := hOb.out.below hb36 hOb.out.lt
                have hb26 := hb.out.trans (hb36.mono hb.out.size)
                obtain ⟨ao, co, hvo⟩ := hO6'.sts.sl
                rw [show ((List.range q).map (remS H l)).length = q by simp] at hvo
                subst hvo
                obtain ⟨a8, c8, w8, hr8, hM8, hb8, hO9, hM9, hb9⟩ := push_step (w5 := w6) (B := w2.heap.size) (Mb := w2.heap.size) (fn, RL) hO6' (HO6.out.mono (by have := HB24.out.size; omega)) hOb6 hb26.size (Nat.le_refl _) (by rw [List.length_map, List.length_range]; omega)
                rw [← HR1.out] at hO9
                rw [show ((List.range q).map (remS H l)).length = q by simp] at hr8 hO9 hM9 hb9
                have R8 := hidP hr8
                have HO9 := hidP hO9
                have HM9 := hidP hM9
                have HB9 := hidP (hb26.trans hb9)
                have o1 := hOb6.cell 1 (v := .slice ao q co) rfl
                have o8 := hM8.cell 1 (v := .slice ao q co) rfl
                have f8 := hM8.fz 1
                have sO := hOb6.lt
                clear hr8 hO9 hM9 hb9 hb8 hM8 hb36 hO6' hb26 hOb6
                go_wp2_with (first
                  | (at_builtin; refine wpListAppendRun rfl _ _ 22 rfl rfl rfl R8.out ?_; clear R8))
                go_roundw
                case rel => exact ⟨q + 1, _, by omega, by go_num, rfl, HO9, HM9, HB9⟩
                case measure => simp [intOf]; omega
    · have q1 : ¬ (q : Int) < (n : Int) := by omega
      obtain rfl : n = q := by omega
      have HXR : Hid (remX H (z, l) = if ov = true then (0, []) else fitM (remM H (z, l))) := by show _ = _; unfold remX; rw [show (z, l).2.length = n from HN.out, show (z, l).2 = l from rfl, HOVQ.out]
      have HXE : Hid (remY H (z, l) = if ov = true then 4 else fitE (remM H (z, l))) := by show _ = _; unfold remY; rw [show (z, l).2.length = n from HN.out, show (z, l).2 = l from rfl, HOVQ.out]
      obtain ⟨ao, co, hvo⟩ := hO.out.sts.sl
      rw [show ((List.range n).map (remS H l)).length = n by simp] at hvo
      subst hvo
      have k0 := KR3.out.cell 0 (v := .int .i64 0) rfl
      have k1 := KR3.out.cell 1 (v := .slice none 0 0) rfl
      have k2 := KR3.out.fz 0
      have k3 := KR3.out.fz 1
      have HBw := hidP (HB2.out.trans (hb.out.mono HB2.out.size))
      cases ov
      · rw [if_neg (by simp)] at HXR HXE
        have HRM : Hid (remM H (z, l) = (z, (List.range n).map (remS H l))) := by show _ = _; unfold remM; rw [show (z, l).2.length = n from HN.out]
        have HOKS : Hid (okM (remM H (z, l))) := rem_each HR.out
        rw [HRM.out] at HOKS HXR HXE
        generalize (List.range n).map (remS H l) = XL at *
        have HFT : Hid (∀ W, OwnSts W w2.heap.size (.slice ao n co) XL → Calls Try.prog 26 #[.agg #[.int .i64 z, .slice ao n co]] W fun e w' => e = .returned (.tuple #[fitV (z, XL) (.agg #[.int .i64 z, .slice ao n co]), .int .i64 (fitE (z, XL))]) ∧ Below W.heap.size W w') := fun W hW => fits_any _ (z, XL) W ⟨_, rfl, hW.sts⟩ HOKS.out
        have HFV : Hid (∃ x0 x1, fitV (z, XL) (.agg #[.int .i64 z, .slice ao n co]) = .agg #[.int .i64 x0, x1] ∧ (∃ a9 n9 c9, x1 = .slice a9 n9 c9) ∧ ∀ W, OwnSts W w2.heap.size (.slice ao n co) XL → Mach W (.agg #[.int .i64 x0, x1]) (fitM (z, XL))) := by
          unfold fitV fitM
          by_cases hsz : sizeB (z, XL) = true
          · rw [if_pos hsz, if_pos hsz]
            exact ⟨z, _, rfl, ⟨_, _, _, rfl⟩, fun W hW => ⟨_, rfl, hW.sts⟩⟩
          · rw [if_neg hsz, if_neg hsz]
            exact ⟨0, _, rfl, ⟨_, _, _, rfl⟩, fun W hW => mach_zeroR W⟩
        obtain ⟨x0, x1, hfv, ⟨a9, n9, c9, rfl⟩, hMF⟩ := HFV.out
        rw [hfv] at HFT
        have HMF := hidP hMF
        clear hfv hMF HFV
        obtain ⟨fe, hfee⟩ : ∃ fe, fitE (z, XL) = fe := ⟨_, rfl⟩
        rw [hfee] at HFT
        have HFE := hidP hfee
        clear hfee
        have o0 := hOb.out.cell 0 (v := .int .i64 z) rfl
        have o1 := hOb.out.cell 1 (v := .slice ao n co) rfl
        have hkr : w.heap.size + 1 < w2.heap.size := KR2.out.lt
        go_wp2_with (first
          | (go_at_call 26; (with_reducible refine (HFT.out _ hO.out).mono ?_); rintro e w8 ⟨rfl, hb8⟩; have HO8 := hidP (hO.out.laterB hb8); have HB8 := hidP (HBw.out.trans (hb8.mono HBw.out.size)); have KR8 := hidP ((KR3.out.below hb8 KR3.out.lt).alloc (.cells #[.int .i64 x0, .slice a9 n9 c9] 24)); have q0 := KR8.out.cell 0 (v := .int .i64 0) rfl; have q1 := KR8.out.cell 1 (v := .slice none 0 0) rfl; have g0 := KR8.out.fz 0; have g1 := KR8.out.fz 1; clear hb8))
        have HO9 := HO8.out.laterB ((Below.refl _ _).alloc (Nat.le_refl _) (.cells #[.int .i64 x0, .slice a9 n9 c9] 24))
        exact bodyPost_ret (res_rem _ _ (w.heap.size + 1) fe _ _ ((KR8.out.set 0 (.int .i64 x0)).set 1 (.slice a9 n9 c9)) rfl rfl) rfl ⟨_, by rw [HXE.out, HFE.out], by rw [HXR.out]; exact HMF.out _ ((HO9.setCell (a := ⟨w.heap.size + 1, 0, none⟩) hkr _).setCell (a := ⟨w.heap.size + 1, 1, none⟩) hkr _), ((HB8.out.alloc HB8.out.size _).setCell (Nat.le_succ _) _).setCell (Nat.le_succ _) _⟩
      · rw [if_pos rfl] at HXR HXE
        go_wp2
        exact bodyPost_ret (res_rem _ _ (w.heap.size + 1) 4 _ _ ((KR3.out.set 0 (.int .i64 0)).set 1 (.slice none 0 0)) rfl rfl) rfl ⟨_, by rw [HXE.out], by rw [HXR.out]; exact mach_zeroR _, (HBw.out.setCell (Nat.le_succ _) _).setCell (Nat.le_succ _) _⟩
theorem removed_any (v : Value) (m : Mc) (w : World) (h : Mach w v m) (hok : okM m) (H : Nat → Nat → Int) (hH : faultM m = 0 → HopT m H) :
    Calls Try.prog 8 #[v] w fun e w' => RatRes (remR H m) (remE H m) w e w' := by
  by_cases h0 : faultM m = 0
  · have e1 : remR H m = if ovTo H m.2 m.2.length = true then (0, []) else fitM (remM H m) := by unfold remR; rw [if_neg (by simp [h0])]
    have e2 : remE H m = if ovTo H m.2 m.2.length = true then 4 else fitE (remM H m) := by unfold remE; rw [if_neg (by simp [h0])]
    rw [e1, e2]
    obtain ⟨z, l⟩ := m
    obtain ⟨vs, rfl, hS⟩ := id h
    exact removed_ok z l vs w h hok h0 H (hH h0)
  · have e1 : remR H m = (0, []) := by unfold remR; rw [if_pos h0]
    have e2 : remE H m = faultM m := by unfold remE; rw [if_pos h0]
    rw [e1, e2]
    exact removed_bad v m w h hok h0
end Go.Proofs.Ytjpfpdbhdcopbaa.Wt
