/- The reference: the costs of the cheapest paths, where the machine is right. -/
import Derived.Test.YtobhjhjfannnnaaUaB
import Derived.Test.YtobhjhjfannnnaaUaf
import Derived.Test.YtobhjhjfannnnaaUab
namespace Go.Proofs.Ytobhjhjfannnnaa.Wt
open Go.ChangeShapes Go.WideShapes Go.ChangeAt Go.RowKit
open Go.Proofs.Ytobhjhjfannnnaa.Pl
set_option linter.unusedVariables false
set_option linter.unusedSimpArgs false
structure HeldXg (ab G t tb tf : Nat) (vt : Value) (x wt : Int) (w : World) : Prop where
 h0 : w.cell? ⟨ab, 3, none⟩ = some (.int .i64 (t : Int))
 h1 : w.cell? ⟨G, t, none⟩ = some vt
 h2 : w.cell? ⟨tb, tf, none⟩ = some (.int .i64 x)
 h3 : w.cell? ⟨ab, 2, none⟩ = some (.int .i64 wt)
theorem HeldXg.later {ab G t tb tf : Nat} {vt : Value} {x wt : Int} {w w' : World} (h : HeldXg ab G t tb tf vt x wt w) (hb : Below w.heap.size w w') : HeldXg ab G t tb tf vt x wt w' :=
 ⟨(hb.cell (World.block_lt_of_cell? _ _ h.h0)).trans h.h0, (hb.cell (World.block_lt_of_cell? _ _ h.h1)).trans h.h1, (hb.cell (World.block_lt_of_cell? _ _ h.h2)).trans h.h2, (hb.cell (World.block_lt_of_cell? _ _ h.h3)).trans h.h3⟩
theorem below_drewX {B : Nat} {w w' : World} (h : Below B w w') (n : Nat) : Below B w (w'.drewN n) := ⟨h.os, h.tape, h.output, h.size, h.block⟩
set_option maxRecDepth 100000 in
set_option maxHeartbeats 12800000 in
theorem costsR_ok (z : Int) (l : List St) (a : Option Addr) (cap nn : Nat) (w : World) (h : Mach w (.agg #[.int .i64 z, .slice a l.length cap]) (z, l)) (hok : okM (z, l)) (hr : faultM (z, l) = 0) (hn20 : nn ≤ 20) :
  Calls Try.prog 15 #[.agg #[.int .i64 z, .slice a l.length cap], .int .i64 (nn : Int)] w fun e w' => LstRes (CostAns (z, l) (nn : Int)) w e w' := by
 have HF := hidP (fun W (hW : Below w.heap.size w W) => fault_any _ (z, l) W (h.later hW (Nat.le_refl _)) hok 0 hr)
 have HIN := hidP (fun W => refIn (nn : Int) 0 20 true W (by unfold inB; simp; omega))
 have HFE := hidP (fun W (hW : Below w.heap.size w W) => farEnds_any _ (z, l) W (h.later hW (Nat.le_refl _)) hok)
 have h60 : l.length ≤ 60 := (right_size hr).1
 have hst := (right_parts hr).1
 have HNU : Hid (∀ q, q < l.length → 0 ≤ (el l q).1 ∧ (el l q).1 ≤ 1000000001 ∧ ∀ i, i < (el l q).2.length → 0 ≤ (el (el l q).2 i).2.2.1 ∧ (el (el l q).2 i).2.2.1 ≤ 1000000000 ∧ ∃ t : Nat, (el (el l q).2 i).2.2.2 = (t : Int) ∧ t < l.length) := fun q hq => right_nums hr hq
 have HA4L : Hid (∀ q, q < l.length → (el l q).2.length ≤ 400) := fun q hq => (right_states hr q hq).2.1
 have hto : ∀ q, q < l.length → ∀ a ∈ (el l q).2, ∃ t : Nat, a.2.2.2 = (t : Int) ∧ t < l.length := fun q hq a ha => by
  obtain ⟨i, hi, rfl⟩ := mem_el ha
  exact ((right_nums hr hq).2.2 i hi).2.2
 have HDN : Hid (∀ q k R, q < l.length → l.length * (nn + 1) < k → RndN l k q nn R → CheapN l q nn R) := fun q k R hq hk hR => hR.done hto hq (by omega)
 have hnn : (0 : Int) ≤ (nn : Int) ∧ (nn : Int) ≤ 20 := by omega
 have HA1 : Hid (∀ vs ec, DstAns (z, l) (EndC l) vs ec → ec ≠ 0 → CostAns (z, l) nn [] ec) := fun vs ec h h0 => .inr (.inr ⟨hr, hnn.1, hnn.2, vs, ec, h, .inl ⟨h0, rfl, rfl⟩⟩)
 have HA2 : Hid (∀ vs, DstAns (z, l) (EndC l) vs 0 → z < 0 → CostAns (z, l) nn [] 0) := fun vs h h0 => .inr (.inr ⟨hr, hnn.1, hnn.2, vs, 0, h, .inr (.inl ⟨rfl, h0, rfl, rfl⟩)⟩)
 have HA3 : Hid (∀ vs, DstAns (z, l) (EndC l) vs 0 → 0 ≤ z → ∀ R, CheapN l z.toNat nn R → (∃ x ∈ R, 1000000000 < x) → CostAns (z, l) nn [] 4) := fun vs h h0 R hR hx => .inr (.inr ⟨hr, hnn.1, hnn.2, vs, 0, h, .inr (.inr ⟨rfl, h0, R, by rw [Int.toNat_natCast]; exact hR, .inl ⟨hx, rfl, rfl⟩⟩)⟩)
 have HA4 : Hid (∀ vs, DstAns (z, l) (EndC l) vs 0 → 0 ≤ z → ∀ R, CheapN l z.toNat nn R → (∀ x ∈ R, x ≤ 1000000000) → CostAns (z, l) nn R 0) := fun vs h h0 R hR hx => .inr (.inr ⟨hr, hnn.1, hnn.2, vs, 0, h, .inr (.inr ⟨rfl, h0, R, by rw [Int.toNat_natCast]; exact hR, .inr ⟨hx, rfl, rfl⟩⟩)⟩)
 have HRZ : Hid (∀ q, RndN l 0 q nn []) := fun q => RndN.zero l q nn
 obtain ⟨vs', hvs, hS⟩ := h
 simp only [Value.agg.injEq, Array.mk.injEq, List.cons.injEq, and_true, true_and] at hvs
 subst hvs
 obtain ⟨a', cap', hsl, hc⟩ := hS.get
 simp only [Value.slice.injEq, true_and] at hsl
 obtain ⟨rfl, rfl⟩ := hsl
 have HC : Hid (∀ j, j < l.length → ∃ b off va, a = some ⟨b, off, none⟩ ∧ b < w.heap.size ∧ w.cell? ⟨b, off + j * 2, none⟩ = some (.int .i64 (el l j).1) ∧ w.cell? ⟨b, off + j * 2 + 1, none⟩ = some va ∧ Arcs w va (el l j).2) := hc
 have HZL : Hid (0 ≤ z → z.toNat < l.length) := fun h0 => by have := hst.2; simp only at this; omega
 clear hS hc hr hok hst hto hnn
 obtain ⟨Q, hQ⟩ : ∃ Q, LstRes (CostAns (z, l) (nn : Int)) w = Q := ⟨_, rfl⟩
 have HR : Hid (∀ (e : Ending) (w' : World) v L ec, CostAns (z, l) (nn : Int) L ec → e = .returned (.tuple #[v, .int .i64 ec]) → Nums w' v L → Below w.heap.size w w' → Q e w') := fun e w' v L ec h1 h2 h3 h4 => by rw [← hQ]; exact costs_lst h1 h2 h3 h4
 show Calls _ _ _ _ fun e w' => LstRes (CostAns (z, l) (nn : Int)) w e w'
 rw [hQ]
 clear hQ
 generalize hN : l.length = N at *
 have HN := hidP hN
 clear hN
 obtain ⟨n1, hn1⟩ : ∃ n1 : Nat, n1 = nn + 1 := ⟨_, rfl⟩
 obtain ⟨K, hK⟩ : ∃ K : Nat, K = N * n1 := ⟨_, rfl⟩
 have hK0 : K ≤ 1260 := by rw [hK]; exact Nat.le_trans (Nat.mul_le_mul h60 (show n1 ≤ 21 by omega)) (by omega)
 have x1 : IntKind.i64.wrap ((nn : Int) + 1) = (n1 : Int) := by rw [wrapI (by omega) (by omega)]; omega
 have x2 : IntKind.i64.wrap ((N : Int) * (n1 : Int)) = (K : Int) := by rw [← Int.natCast_mul, ← hK]; exact wrapI (by omega) (by omega)
 have HK : Hid (K = N * (nn + 1)) := by (show _ = _); rw [hK, hn1]
 clear hK hn1
 have HB0 : Hid (Below w.heap.size w (w.alloc (.cells #[.int .i64 z, .slice a N cap] 24))) := (Below.refl _ _).alloc (Nat.le_refl _) _
 have hmk := run_rowsX N (by omega)
 go_enter Try.func15, Try.ntmps15
 go_upto_region 7 with (first
  | (go_at_call 35; (with_reducible refine (HF.out _ HB0.out).mono ?_); rintro e w1 ⟨rfl, hb⟩; obtain ⟨s1, k1, hb1⟩ := boxed hb (by simp); have HB1 := hidP hb1; have KM := hidP k1; have f0 := k1.cell 0 (v := .int .i64 z) rfl; have f1 := k1.cell 1 (v := .slice a N cap) rfl; clear hb hb1 k1 HF)
  | (go_at_call 36; (with_reducible refine (HIN.out _).mono ?_); rintro e w' ⟨rfl, rfl⟩)
  | (go_at_call 29; (with_reducible refine (HFE.out _ HB1.out).mono ?_); rintro e w2 ⟨vr, us, ec, rfl, hq, hnu, hb⟩; have HQA := hidP hq; have HB2 := hidP (HB1.out.trans (hb.mono HB1.out.size)); have KM2 := hidP (KM.out.below hb KM.out.lt); obtain ⟨ar, cr, rfl, _⟩ := hnu.get; clear hb hq hnu HFE))
 by_cases h0 : ec = 0
 rotate_left
 ·have hrn : (ec != 0) = true := by simpa using h0
  have HAN := hidP (HA1.out _ _ HQA.out h0)
  clear h0
  go_wp2
  exact HR.out _ _ _ [] ec HAN.out rfl (.inl ⟨rfl, rfl⟩) HB2.out
 subst h0
 have g1 := KM2.out.cell 1 (v := .slice a N cap) rfl
 have hsz2 : w.heap.size < w2.heap.size := KM2.out.lt
 have RN0 := hidP (rows_made w2 N)
 have KM3 := hidP (KM2.out.alloc (.cells (Array.replicate N (Value.slice none 0 0)) 26))
 have HB3 := hidP (HB2.out.alloc HB2.out.size (.cells (Array.replicate N (Value.slice none 0 0)) 26))
 have HRR : Hid (∀ q, q < N → RndN l 0 q nn (el (List.replicate N []) q) ∧ ∀ x ∈ el (List.replicate N ([] : List Int)) q, x ≤ 1000000001 * (((0 : Nat) : Int) + 1)) := fun q hq => by
  rw [el_get (by simpa using hq), List.getElem_replicate]
  exact ⟨HRZ.out q, fun x hx => absurd hx (by simp)⟩
 go_wp2
 go_loopw [8, 9] (fun s8 s9 wr => ∃ (k G : Nat) (rows : List (List Int)) (vs : List Value), s8 = .slice (some ⟨G, 0, none⟩) N N ∧ s9 = .int .i64 k ∧ k ≤ K + 1 ∧ Hid (rows.length = N) ∧ Hid (∀ q, q < N → RndN l k q nn (el rows q) ∧ ∀ x ∈ el rows q, x ≤ 1000000001 * ((k : Int) + 1)) ∧ Hid (RowsN wr G rows vs) ∧ Hid (Blk wr w.heap.size #[.int .i64 z, .slice a N cap] 24) ∧ Hid (Below w.heap.size w wr) ∧ w.heap.size < G) (fun _ s9 _ => K + 1 - (intOf s9).toNat)
 case atStart => exact ⟨0, w2.heap.size, List.replicate N [], _, rfl, by go_num, Nat.zero_le _, List.length_replicate, HRR, RN0, KM3, HB3, hsz2⟩
 case round =>
  clear RN0 KM2 KM3 HB2 HB3 HRR g1
  obtain ⟨k, G, rows, vs, rfl, rfl, hk, hRl, hRR, hRW, hM, hb, hG⟩ := hrel
  obtain ⟨wk, hwk⟩ : ∃ wk, wk = wr := ⟨_, rfl⟩
  subst hwk
  have d1 := hM.out.cell 1 (v := .slice a N cap) rfl
  have hGl := hRW.out.blk.lt
  by_cases hkK : k ≤ K
  ·have hkK' : (k : Int) ≤ (K : Int) := by omega
   have BK : Below wk.heap.size wk (wk.alloc (.cells (Array.replicate N (Value.slice none 0 0)) 26)) := (Below.refl _ _).alloc (Nat.le_refl _) _
   have RN2 := hidP (rows_made wk N)
   have RW2 := hidP (hRW.out.later BK)
   have M2 := hidP (hM.out.alloc (.cells (Array.replicate N (Value.slice none 0 0)) 26))
   have B2 := hidP (hb.out.alloc hb.out.size (.cells (Array.replicate N (Value.slice none 0 0)) 26))
   clear BK
   go_wp2
   go_loopw [11] (fun s11 wr => ∃ (q : Nat) (rows2 : List (List Int)) (vs2 : List Value), s11 = .int .i64 q ∧ q ≤ N ∧ Hid (rows2.length = N) ∧ Hid (∀ p, p < q → RndN l (k + 1) p nn (el rows2 p) ∧ ∀ x ∈ el rows2 p, x ≤ 1000000001 * (((k + 1 : Nat) : Int) + 1)) ∧ Hid (RowsN wr wk.heap.size rows2 vs2) ∧ Hid (RowsN wr G rows vs) ∧ Hid (Blk wr w.heap.size #[.int .i64 z, .slice a N cap] 24) ∧ Hid (Below w.heap.size w wr)) (fun s11 _ => N - (intOf s11).toNat)
   case atStart => exact ⟨0, List.replicate N [], _, by go_num, Nat.zero_le _, List.length_replicate, fun p hp => absurd hp (Nat.not_lt_zero _), RN2, RW2, M2, B2⟩
   case round =>
    clear RN2 RW2 M2 B2 d1 hM hb hRW
    obtain ⟨q, rows2, vs2, rfl, hq, hL2, hR2, hW2, hW1, hM, hb⟩ := hrel
    obtain ⟨wq, hwq⟩ : ∃ wq, wq = wr := ⟨_, rfl⟩
    subst hwq
    have d1 := hM.out.cell 1 (v := .slice a N cap) rfl
    by_cases hqN : q < N
    ·have hqN' : (q : Int) < (N : Int) := by omega
     have hq0 : (0 : Int) ≤ (q : Int) := by omega
     obtain ⟨b, off, va, rfl, hbl, s0, s1, sAr⟩ := HC.out q hqN
     obtain ⟨f0, f9, hAR⟩ := HNU.out q hqN
     have hal := HA4L.out q hqN
     obtain ⟨sa, sc, rfl, hca⟩ := sAr.get
     have HCA : Hid (∀ j, j < (el l q).2.length → ∃ b off, sa = some ⟨b, off, none⟩ ∧ b < w.heap.size ∧ w.cell? ⟨b, off + j * 4, none⟩ = some (.int .i64 (el (el l q).2 j).1) ∧ w.cell? ⟨b, off + j * 4 + 1, none⟩ = some (.int .i64 (el (el l q).2 j).2.1) ∧ w.cell? ⟨b, off + j * 4 + 2, none⟩ = some (.int .i64 (el (el l q).2 j).2.2.1) ∧ w.cell? ⟨b, off + j * 4 + 3, none⟩ = some (.int .i64 (el (el l q).2 j).2.2.2)) := hca
     have HAR := hidP hAR
     have HF1 : Hid ((el l q).1 ≠ 1000000001 → InsN nn (fun c => fE l q c + sA l k ((el l q).2.take 0) c) ((insS (el l q).1 []).take nn)) := fun h1 => InsN.fin f0 h1 k _
     have HF2 : Hid ((el l q).1 = 1000000001 → InsN nn (fun c => fE l q c + sA l k ((el l q).2.take 0) c) []) := fun h1 => InsN.nofin h1 k _
     have HNX : Hid (∀ L, InsN nn (fun c => fE l q c + sA l k ((el l q).2.take (el l q).2.length) c) L → RndN l (k + 1) q nn L) := fun L h => by rw [List.take_length] at h; exact RndN.next h
     have c0 := (hb.out.cell (p := ⟨b, off + q * 2, none⟩) hbl).trans s0
     have HS1 := hidP s1
     clear hca sAr s0 s1 hAR
     generalize (el l q).1 = fin at *
     generalize (el l q).2 = arc at *
     generalize fE l q = fq at *
     go_upto_if 60 with fail
     go_cut [12] (fun t wx => ∃ L, Hid (InsN nn (fun c => fq c + sA l k (arc.take 0) c) L ∧ ∀ x ∈ L, x ≤ 1000000001 * (((k + 1 : Nat) : Int) + 1)) ∧ Hid (Nums wx t L) ∧ Hid (Below wq.heap.size wq wx))
     case first =>
      by_cases hf : fin = 1000000001
      ·have HL := hidP (HF2.out hf)
       have hfb : (fin != 1000000001) = false := by simp [hf]
       clear hf
       go_wp2
       go_meet
       case rel => exact ⟨[], ⟨HL.out, fun x hx => absurd hx (by simp)⟩, .inl ⟨rfl, rfl⟩, Below.refl _ _⟩
      ·have HL := hidP (HF1.out hf)
       have hfb : (fin != 1000000001) = true := by simp [hf]
       have HCI := hidP (insertR_any (.slice none 0 0) [] fin nn wq (.inl ⟨rfl, rfl⟩) (by simp) (by omega))
       clear hf
       go_wp2_with (first
        | (go_at_call 37; (with_reducible refine HCI.out.mono ?_); rintro e w4 ⟨v4, rfl, hn4, hb4⟩; have HN4 := hidP hn4; have HB4 := hidP hb4; clear hn4 hb4))
       go_meet
       case rel => exact ⟨_, ⟨HL.out, ins_le (by omega) (fun y hy => absurd hy (by simp))⟩, HN4, HB4⟩
     case rest =>
      obtain ⟨L0, hL0, hN0, hb0⟩ := hcut
      clear HF1 HF2 c0 d1
      go_wp2
      go_loopw [12, 13] (fun s12 s13 wr => ∃ (i : Nat) (L : List Int), s13 = .int .i64 i ∧ i ≤ arc.length ∧ Hid (InsN nn (fun c => fq c + sA l k (arc.take i) c) L ∧ ∀ x ∈ L, x ≤ 1000000001 * (((k + 1 : Nat) : Int) + 1)) ∧ Hid (Nums wr s12 L) ∧ Hid (Below wq.heap.size wq wr)) (fun _ s13 _ => arc.length - (intOf s13).toNat)
      case atStart => exact ⟨0, L0, by go_num, Nat.zero_le _, hL0, hN0, hb0⟩
      case round =>
       clear hL0 hN0 hb0
       obtain ⟨i, L, rfl, hi, hL, hNL, hbq⟩ := hrel
       obtain ⟨la, lc, hlv, _⟩ := hNL.out.get
       subst hlv
       have HBx := hidP (hb.out.trans (hbq.out.mono hb.out.size))
       have d1 := (hM.out.below hbq.out hM.out.lt).cell 1 (v := .slice (some ⟨b, off, none⟩) N cap) rfl
       have c1 := (HBx.out.cell (p := ⟨b, off + q * 2 + 1, none⟩) hbl).trans HS1.out
       by_cases hiA : i < arc.length
       ·have hiA' : (i : Int) < (arc.length : Int) := by omega
        have hi0 : (0 : Int) ≤ (i : Int) := by omega
        obtain ⟨b4, of4, rfl, hb4, g0, g1, g2, g3⟩ := HCA.out i hiA
        obtain ⟨hw0, hw9, t, et, htN⟩ := HAR.out i hiA
        have hT := hRR.out t htN
        have HTn : Hid (∀ P, InsN nn (fun c => fq c + sA l k (arc.take i) c + cUp (el rows t) (el arc i).2.2.1 (el rows t).length c) P → InsN nn (fun c => fq c + sA l k (arc.take (i + 1)) c) P) := fun P h => InsN.arc hiA et hw0 hT.1 h
        have HTB := hidP hT.2
        have HTP := hidP hT.1.pos
        have hTl := hT.1.len
        have hrt := (hW1.out.later hbq.out).row t (by rw [hRl.out]; exact htN)
        have hct := (hW1.out.later hbq.out).cell (j := t) (by rw [hRl.out]; exact htN)
        obtain ⟨ta, tc, htv, htc⟩ := hrt.get
        rw [htv] at hct
        have HTC := hidP htc
        rw [et] at g3
        have g0 := (HBx.out.cell (p := ⟨b4, of4 + i * 4, none⟩) hb4).trans g0
        have g1 := (HBx.out.cell (p := ⟨b4, of4 + i * 4 + 1, none⟩) hb4).trans g1
        have g2 := (HBx.out.cell (p := ⟨b4, of4 + i * 4 + 2, none⟩) hb4).trans g2
        have g3 := (HBx.out.cell (p := ⟨b4, of4 + i * 4 + 3, none⟩) hb4).trans g3
        generalize el rows t = T at *
        generalize el arc i = ac at *
        obtain ⟨p0, p1, p2, p3⟩ := ac
        simp only at g0 g1 g2 hw0 hw9
        have HTn : Hid (∀ P, InsN nn (fun c => fq c + sA l k (arc.take i) c + cUp T p2 T.length c) P → InsN nn (fun c => fq c + sA l k (arc.take (i + 1)) c) P) := HTn.out
        clear hT htc hrt et
        obtain ⟨wi, hwi⟩ : ∃ wi, wi = wr := ⟨_, rfl⟩
        subst hwi
        have AB := hidP (Blk.made wi #[.int .i64 p0, .int .i64 p1, .int .i64 p2, .int .i64 (t : Int)] 64)
        have BI := hidP ((Below.refl wi.heap.size wi).alloc (Nat.le_refl _) (.cells #[.int .i64 p0, .int .i64 p1, .int .i64 p2, .int .i64 (t : Int)] 64))
        have HL4 : Hid (InsN nn (fun c => fq c + sA l k (arc.take i) c + cUp T p2 0 c) L ∧ ∀ x ∈ L, x ≤ 1000000001 * (((k + 1 : Nat) : Int) + 1)) := ⟨hL.out.1.up0, hL.out.2⟩
        have HN4 := hidP (hNL.out.later BI.out (Nat.le_refl _))
        go_wp2
        go_loopw [12, 15] (fun s12 s15 wr => ∃ (j : Nat) (L : List Int), s15 = .int .i64 j ∧ j ≤ T.length ∧ Hid (InsN nn (fun c => fq c + sA l k (arc.take i) c + cUp T p2 j c) L ∧ ∀ x ∈ L, x ≤ 1000000001 * (((k + 1 : Nat) : Int) + 1)) ∧ Hid (Nums wr s12 L) ∧ Hid (Blk wr wi.heap.size #[.int .i64 p0, .int .i64 p1, .int .i64 p2, .int .i64 (t : Int)] 64) ∧ Hid (Below wi.heap.size wi wr)) (fun _ s15 _ => T.length - (intOf s15).toNat)
        case atStart => exact ⟨0, L, by go_num, Nat.zero_le _, HL4, HN4, AB, BI⟩
        case round =>
         clear HL4 HN4 AB BI g0 g1 g2 g3 d1 c1
         obtain ⟨j, L4, rfl, hj, hI, hN4, hAB, hbi⟩ := hrel
         obtain ⟨l4, c4, hlv, _⟩ := hN4.out.get
         subst hlv
         have e3 := hAB.out.cell 3 (v := .int .i64 (t : Int)) rfl
         have e2 := hAB.out.cell 2 (v := .int .i64 p2) rfl
         have hct4 := (hbi.out.cell (p := ⟨G, t, none⟩) (World.block_lt_of_cell? _ _ hct)).trans hct
         have ht0 : (0 : Int) ≤ (t : Int) := by omega
         have htN' : (t : Int) < (N : Int) := by omega
         by_cases hjT : j < T.length
         ·have hjT' : (j : Int) < (T.length : Int) := by omega
          have hj0 : (0 : Int) ≤ (j : Int) := by omega
          obtain ⟨tb, tf, rfl, htb, u0⟩ := HTC.out j hjT
          have u0 := (hbi.out.cell (p := ⟨tb, tf + j, none⟩) htb).trans u0
          have hx0 := HTP.out _ (el_mem hjT)
          have hx9 := HTB.out _ (el_mem hjT)
          have HI2 : Hid (InsN nn (fun c => fq c + sA l k (arc.take i) c + cUp T p2 (j + 1) c) ((insS (el T j + p2) L4).take nn) ∧ ∀ x ∈ (insS (el T j + p2) L4).take nn, x ≤ 1000000001 * (((k + 1 : Nat) : Int) + 1)) := ⟨hI.out.1.up hjT (by omega), ins_le (by omega) hI.out.2⟩
          have hLl := hI.out.1.len
          generalize el T j = x at *
          have hwr : IntKind.i64.wrap (x + p2) = x + p2 := wrapI (by omega) (by omega)
          obtain ⟨xs, hxs⟩ : ∃ xs, x + p2 = xs := ⟨_, rfl⟩
          rw [hxs] at HI2 hwr
          have HS : HeldXg wi.heap.size G t tb (tf + j) (.slice (some ⟨tb, tf, none⟩) T.length tc) x p2 wr.drew := ⟨e3, hct4, u0, e2⟩
          have HCALL := hidP (insertR_any (.slice l4 L4.length c4) L4 xs nn wr.drew (hN4.out.later (Below.refl wr.heap.size wr).drew (Nat.le_refl _)) (by omega) (by omega))
          clear hx0 hx9
          go_wp2
          refine region_anyL (HeldXg wi.heap.size G t tb (tf + j) (.slice (some ⟨tb, tf, none⟩) T.length tc) x p2) 1000 (by kernel_rfl) ?_
          refine anyL_tk (i := 0) (v := ?v0_1) aZ0 (by kernel_rfl) ?y0_1 HS ?r0_1
          case y0_1 => intro wx hx; obtain ⟨h0, h1, h2, h3⟩ := hx; go_simp; try (with_reducible rfl)
          simp only [Act.put, List.setIfInBounds_toArray, List.set_cons_zero, List.set_cons_succ]
          refine anyL_tk (i := 1) (v := ?v1_2) aZ1 (by kernel_rfl) ?y1_2 HS ?r1_2
          case y1_2 => intro wx hx; obtain ⟨h0, h1, h2, h3⟩ := hx; go_simp; try (with_reducible rfl)
          simp only [Act.put, List.setIfInBounds_toArray, List.set_cons_zero, List.set_cons_succ]
          refine anyL_tk (i := 2) (v := ?v2_3) aZ2 (by kernel_rfl) ?y2_3 HS ?r2_3
          case y2_3 => intro wx hx; obtain ⟨h0, h1, h2, h3⟩ := hx; go_simp; try (with_reducible rfl)
          simp only [Act.put, List.setIfInBounds_toArray, List.set_cons_zero, List.set_cons_succ]
          refine anyL_tk (i := 3) (v := ?v3_4) aZ3 (by kernel_rfl) ?y3_4 HS ?r3_4
          case y3_4 => intro wx hx; obtain ⟨h0, h1, h2, h3⟩ := hx; go_simp; try (with_reducible rfl)
          simp only [Act.put, List.setIfInBounds_toArray, List.set_cons_zero, List.set_cons_succ]
          refine anyL_tk (i := 4) (v := ?v4_5) aZ4 (by kernel_rfl) ?y4_5 HS ?r4_5
          case y4_5 => intro wx hx; obtain ⟨h0, h1, h2, h3⟩ := hx; go_simp; try (with_reducible rfl)
          simp only [Act.put, List.setIfInBounds_toArray, List.set_cons_zero, List.set_cons_succ]
          refine anyL_tk (i := 5) (v := ?v5_6) aZ5 (by kernel_rfl) ?y5_6 HS ?r5_6
          case y5_6 => intro wx hx; obtain ⟨h0, h1, h2, h3⟩ := hx; go_simp; try (with_reducible rfl)
          simp only [Act.put, List.setIfInBounds_toArray, List.set_cons_zero, List.set_cons_succ]
          refine anyL_tk (i := 6) (v := ?v6_7) aZ6 (by kernel_rfl) ?y6_7 HS ?r6_7
          case y6_7 => intro wx hx; obtain ⟨h0, h1, h2, h3⟩ := hx; go_simp; try (with_reducible rfl)
          simp only [Act.put, List.setIfInBounds_toArray, List.set_cons_zero, List.set_cons_succ]
          refine anyL_tk (i := 7) (v := ?v7_8) aZ7 (by kernel_rfl) ?y7_8 HS ?r7_8
          case y7_8 => intro wx hx; obtain ⟨h0, h1, h2, h3⟩ := hx; go_simp; try (with_reducible rfl)
          simp only [Act.put, List.setIfInBounds_toArray, List.set_cons_zero, List.set_cons_succ]
          refine anyL_tk (i := 8) (v := ?v8_9) aZ8 (by kernel_rfl) ?y8_9 HS ?r8_9
          case y8_9 => intro wx hx; obtain ⟨h0, h1, h2, h3⟩ := hx; go_simp; try (with_reducible rfl)
          simp only [Act.put, List.setIfInBounds_toArray, List.set_cons_zero, List.set_cons_succ]
          refine anyL_tk (i := 9) (v := ?v9_10) aZ9 (by kernel_rfl) ?y9_10 HS ?r9_10
          case y9_10 => intro wx hx; obtain ⟨h0, h1, h2, h3⟩ := hx; go_simp; try (with_reducible rfl)
          simp only [Act.put, List.setIfInBounds_toArray, List.set_cons_zero, List.set_cons_succ]
          refine anyL_tk (i := 10) (v := ?v10_11) aZ10 (by kernel_rfl) ?y10_11 HS ?r10_11
          case y10_11 => intro wx hx; obtain ⟨h0, h1, h2, h3⟩ := hx; go_simp; try (with_reducible rfl)
          simp only [Act.put, List.setIfInBounds_toArray, List.set_cons_zero, List.set_cons_succ]
          refine anyL_tk (i := 11) (v := ?v11_12) aZ11 (by kernel_rfl) ?y11_12 HS ?r11_12
          case y11_12 => intro wx hx; obtain ⟨h0, h1, h2, h3⟩ := hx; go_simp; try (with_reducible rfl)
          simp only [Act.put, List.setIfInBounds_toArray, List.set_cons_zero, List.set_cons_succ]
          refine anyL_tk (i := 12) (v := ?v12_13) aZ12 (by kernel_rfl) ?y12_13 HS ?r12_13
          case y12_13 => intro wx hx; obtain ⟨h0, h1, h2, h3⟩ := hx; go_simp; try (with_reducible rfl)
          simp only [Act.put, List.setIfInBounds_toArray, List.set_cons_zero, List.set_cons_succ]
          refine anyL_one (i := 13) aZ13 (by kernel_rfl) rfl (fun K hK => ?_)
          go_simp
          with_reducible refine HCALL.out.mono ?_
          rintro e w5 ⟨v5, rfl, hn5, hb5⟩
          have HS5 := HS.later hb5
          have HN5 := hidP hn5
          have HB5 := hidP ((Below.refl wr.heap.size wr).drew.trans hb5)
          clear hn5 hb5
          refine hK _ _ (.inr HS5) ?_
          try simp only [Act.put, List.setIfInBounds_toArray, List.set_cons_zero, List.set_cons_succ]
          refine anyL_tk (i := 14) (v := ?v14_14) aZ14 (by kernel_rfl) ?y14_14 HS5 ?r14_14
          case y14_14 => intro wx hx; obtain ⟨h0, h1, h2, h3⟩ := hx; go_simp; try (with_reducible rfl)
          simp only [Act.put, List.setIfInBounds_toArray, List.set_cons_zero, List.set_cons_succ]
          refine anyL_done (by kernel_rfl) (NoPanic.normal ?_)
          try simp only [Act.put, List.setIfInBounds_toArray, List.set_cons_zero, List.set_cons_succ]
          clear HS HS5 HCALL
          go_wp2
          go_roundw
          case rel => exact ⟨j + 1, _, by go_num, by omega, HI2, HN5, hAB.out.below HB5.out hAB.out.lt, hbi.out.trans (HB5.out.mono hbi.out.size)⟩
          case measure => simp [intOf]; omega
         ·have hjT' : ¬ (j : Int) < (T.length : Int) := by omega
          obtain rfl : j = T.length := by omega
          have HI2 : Hid (InsN nn (fun c => fq c + sA l k (arc.take (i + 1)) c) L4 ∧ ∀ x ∈ L4, x ≤ 1000000001 * (((k + 1 : Nat) : Int) + 1)) := ⟨HTn.out _ hI.out.1, hI.out.2⟩
          have HBz := hidP (hbq.out.trans (hbi.out.mono hbq.out.size))
          go_wp2
          go_roundw
          case rel => exact ⟨i + 1, L4, by go_num, by omega, HI2, hN4, HBz⟩
          case measure => simp [intOf]; omega
       ·have hiA' : ¬ (i : Int) < (arc.length : Int) := by omega
        obtain rfl : i = arc.length := by omega
        have HQ2 := hidP (HNX.out _ hL.out.1)
        have W2 := hW2.out.later hbq.out
        have W1 := hW1.out.later hbq.out
        have hne : G ≠ wk.heap.size := by omega
        have hfz := W2.blk.fz q
        have hce := W2.cell (j := q) (by rw [hL2.out]; exact hqN)
        have W2' := hidP (W2.put (i := q) (by rw [hL2.out]; exact hqN) hNL.out)
        have W1' := hidP (W1.setO hne W2.blk W2.sl q (.slice la L.length lc))
        have M' := hidP ((hM.out.below hbq.out hM.out.lt).setO ⟨wk.heap.size, q, none⟩ (.slice la L.length lc) (by show w.heap.size ≠ wk.heap.size; omega))
        have B' := hidP (HBx.out.setCell (p := ⟨wk.heap.size, q, none⟩) (by show w.heap.size ≤ wk.heap.size; omega) (.slice la L.length lc))
        have HR3 : Hid (∀ p, p < q + 1 → RndN l (k + 1) p nn (el (rows2.set q L) p) ∧ ∀ x ∈ el (rows2.set q L) p, x ≤ 1000000001 * (((k + 1 : Nat) : Int) + 1)) := fun p hp => by
         by_cases e : q = p
         ·subst e
          rw [el_get (by rw [List.length_set, hL2.out]; exact hqN), List.getElem_set_self]
          exact ⟨HQ2.out, hL.out.2⟩
         ·have e1 : el (rows2.set q L) p = el rows2 p := by simp only [el, List.getD_eq_getElem?_getD, List.getElem?_set_ne e]
          rw [e1]; exact hR2.out p (by omega)
        have HL3 : Hid ((rows2.set q L).length = N) := by (show _ = _); rw [List.length_set]; exact hL2.out
        clear W1 W2 hW1 hW2 hM
        go_wp2
        go_roundw
        case rel => exact ⟨q + 1, rows2.set q L, _, by go_num, by omega, HL3, HR3, W2', W1', M', B'⟩
        case measure => simp [intOf]; omega
    ·have hqN' : ¬ (q : Int) < (N : Int) := by omega
     have hwl : w.heap.size < wk.heap.size := by omega
     go_wp2
     go_roundw
     case rel => exact ⟨k + 1, wk.heap.size, rows2, vs2, rfl, by go_num, by omega, hL2, fun p hp => hR2.out p (by omega), hW2, hM, hb, hwl⟩
     case measure => simp [intOf]; omega
  ·have hkK' : ¬ (k : Int) ≤ (K : Int) := by omega
   have d0 := hM.out.cell 0 (v := .int .i64 z) rfl
   by_cases hz : z < 0
   ·have HAN := hidP (HA2.out _ HQA.out hz)
    go_wp2
    exact HR.out _ _ _ [] 0 HAN.out rfl (.inl ⟨rfl, rfl⟩) hb.out
   ·have hz0 : 0 ≤ z := by omega
    have hzN := HZL.out hz0
    obtain ⟨zn, rfl⟩ : ∃ zn : Nat, z = (zn : Int) := ⟨z.toNat, by omega⟩
    rw [Int.toNat_natCast] at hzN
    have hzN' : (zn : Int) < (N : Int) := by omega
    have hCH := HDN.out zn k _ hzN (by rw [← HK.out]; omega) (hRR.out zn hzN).1
    have HX3 : Hid ((∃ x ∈ el rows zn, 1000000000 < x) → CostAns ((zn : Int), l) nn [] 4) := fun hx => HA3.out _ HQA.out hz0 _ (by rw [Int.toNat_natCast]; exact hCH) hx
    have HX4 : Hid ((∀ x ∈ el rows zn, x ≤ 1000000000) → CostAns ((zn : Int), l) nn (el rows zn) 0) := fun hx => HA4.out _ HQA.out hz0 _ (by rw [Int.toNat_natCast]; exact hCH) hx
    have hTl5 := (hRR.out zn hzN).1.len
    have hrt := hRW.out.row zn (by rw [hRl.out]; exact hzN)
    have hct := hRW.out.cell (j := zn) (by rw [hRl.out]; exact hzN)
    have HNR := hidP hrt
    obtain ⟨ta, tc, htv, htc⟩ := hrt.get
    rw [htv] at hct HNR
    have HTC := hidP htc
    clear hrt htc hCH hRR HA1 HA2 HA3 HA4 HDN HNU HC
    generalize el rows zn = T at *
    obtain ⟨w5, hw5⟩ : ∃ w5, w5 = wk := ⟨_, rfl⟩
    subst hw5
    go_wp2
    go_loopw [17] (fun s17 wr => ∃ (j m : Nat), s17 = .int .i64 j ∧ j ≤ T.length ∧ Hid (∀ i, i < j → el T i ≤ 1000000000) ∧ wr = w5.drewN m) (fun s17 _ => T.length - (intOf s17).toNat)
    case atStart => exact ⟨0, 0, by go_num, Nat.zero_le _, fun i hi => absurd hi (Nat.not_lt_zero _), rfl⟩
    case round =>
     obtain ⟨j, m, rfl, hj, hlo, rfl⟩ := hrel
     by_cases hjT : j < T.length
     ·have hjT' : (j : Int) < (T.length : Int) := by omega
      have hj0 : (0 : Int) ≤ (j : Int) := by omega
      obtain ⟨tb, tf, rfl, htb, u0⟩ := HTC.out j hjT
      have u0 : (w5.drewN m).cell? ⟨tb, tf + j, none⟩ = some (.int .i64 (el T j)) := u0
      by_cases hx : 1000000000 < el T j
      ·have HAN := hidP (HX3.out ⟨_, el_mem hjT, hx⟩)
       generalize el T j = x at *
       go_wp2
       exact HR.out _ _ _ [] 4 HAN.out rfl (.inl ⟨rfl, rfl⟩) (below_drewX hb.out _)
      ·have HLO : Hid (∀ i, i < j + 1 → el T i ≤ 1000000000) := fun i hi => by
        rcases Nat.lt_or_ge i j with y | y
        ·exact hlo.out i y
        ·rw [show i = j by omega]; omega
       clear hlo
       generalize hxx : el T j = x at *
       clear hxx
       go_wp2
       go_roundw
       case rel => exact ⟨j + 1, _, by go_num, by omega, HLO, rfl⟩
       case measure => simp [intOf]; omega
     ·have hjT' : ¬ (j : Int) < (T.length : Int) := by omega
      have HAN := hidP (HX4.out fun x hx => by
       obtain ⟨i, hi, rfl⟩ := mem_el hx
       exact hlo.out i (by omega))
      go_wp2
      exact HR.out _ _ _ T 0 HAN.out rfl (HNR.out.later (below_drewX (Below.refl _ _) _) (Nat.le_refl _)) (below_drewX hb.out _)
end Go.Proofs.Ytobhjhjfannnnaa.Wt
namespace Go.Proofs.Ytobhjhjfannnnaa.Wt
open Go.Proofs.Ytobhjhjfannnnaa.Pl
theorem costsR_any (v : Value) (m : Mc) (n : Int) (w : World) (h : Mach w v m) (hok : okM m) :
  Calls Try.prog 15 #[v, .int .i64 n] w fun e w' => LstRes (CostAns m n) w e w' := by
 by_cases hr : faultM m = 0
 ·by_cases hn : 0 ≤ n ∧ n ≤ 20
  ·obtain ⟨z, l⟩ := m
   obtain ⟨vs, rfl, hS⟩ := id h
   obtain ⟨a, cap, rfl⟩ := hS.sl
   obtain ⟨k, rfl⟩ : ∃ k : Nat, n = (k : Int) := ⟨n.toNat, by omega⟩
   exact costsR_ok z l a cap k w h hok hr (by omega)
  ·exact costsR_rng v m n w h hok hr hn
 ·exact costsR_bad v m n w h hok _ rfl hr
end Go.Proofs.Ytobhjhjfannnnaa.Wt
