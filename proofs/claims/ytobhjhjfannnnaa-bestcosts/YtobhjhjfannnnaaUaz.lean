/- The reference: the best path. -/
import Derived.Test.YtobhjhjfannnnaaUav
import Derived.Test.YtobhjhjfannnnaaUaw
import Derived.Test.YtobhjhjfannnnaaUay
import Derived.Test.YtobhjhjfannnnaaUax
import Derived.Test.YtobhjhjfannnnaaUai
import Derived.Test.YtobhjhjfannnnaaUan
import Derived.Test.YtobhjhjfannnnaaUab
namespace Go.Proofs.Ytobhjhjfannnnaa.Wt
open Go.ChangeShapes Go.WideShapes Go.ChangeAt Go.RowKit
open Go.Proofs.Ytobhjhjfannnnaa.Pl
set_option linter.unusedVariables false
set_option linter.unusedSimpArgs false
theorem res_pth (tm : Array Value) (W : World) (R : Nat) (ec : Int) (x0 x1 : Value) (hB : Blk W R #[x0, x1] 28) (h2 : tm.getD 2 undef = .pointer (some ⟨R, 0, none⟩)) (h3 : tm.getD 3 undef = .int .i64 ec) : (results Try.f11 tm).run Try.prog W = .ok (.tuple #[.agg #[x0, x1], .int .i64 ec]) W := by
 have c0 := hB.cell 0 (v := x0) rfl
 have c1 := hB.cell 1 (v := x1) rfl
 simp only [Array.getD_eq_getD_getElem?] at h2 h3
 simp [results, Try.results11, go_sem, h2, h3, c0, c1]
set_option maxRecDepth 100000 in
set_option maxHeartbeats 6400000 in
theorem bestR_any (v : Value) (m : Mc) (w : World) (h : Mach w v m) (hok : okM m) :
  Calls Try.prog 11 #[v] w fun e w' => PthRes (BestAns m) w e w' := by
 have HFE := hidP (fun W (hW : Below w.heap.size w W) => farEnds_any v m W (h.later hW (Nat.le_refl _)) hok)
 have HA1 : Hid (∀ vs ec, DstAns m (EndC m.2) vs ec → ec ≠ 0 → BestAns m 0 [] ec) := fun vs ec h h0 => ⟨vs, ec, h, .inl ⟨h0, rfl, rfl, rfl⟩⟩
 have HA2 : Hid (∀ vs, DstAns m (EndC m.2) vs 0 → (m.1 < 0 ∨ el vs m.1.toNat = 1000000001) → BestAns m 0 [] 12) := fun vs h h0 => ⟨vs, 0, h, .inr (.inl ⟨rfl, h0, rfl, rfl, rfl⟩)⟩
 have HA3 : Hid (∀ vs, DstAns m (EndC m.2) vs 0 → 0 ≤ m.1 → el vs m.1.toNat ≠ 1000000001 → ∀ k L, LenA m.2 vs m.1.toNat k → BstW m.2 vs k m.1.toNat L → BestAns m (el vs m.1.toNat) L 0) := fun vs h h0 h1 k L h2 h3 => ⟨vs, 0, h, .inr (.inr ⟨rfl, h0, h1, rfl, rfl, k, h2, h3⟩)⟩
 have HFF : Hid (∀ vs, DstAns m (EndC m.2) vs 0 → faultM m = 0) := fun vs h => by
  rcases h with ⟨h0, _, h1⟩ | ⟨h0, _⟩
  ·exact absurd h1.symm h0
  ·exact h0
 have HMI : Hid (Mach w v m) := h
 have HOK := hidP hok
 obtain ⟨z, l⟩ := m
 obtain ⟨vs', rfl, hS⟩ := h
 obtain ⟨a, cap, rfl⟩ := hS.sl
 clear hS hok
 have HB0 : Hid (Below w.heap.size w ((w.alloc (.cells #[.int .i64 z, .slice a l.length cap] 24)).alloc (.cells #[.int .i64 0, .slice none 0 0] 28))) := ((Below.refl _ _).alloc (Nat.le_refl _) _).alloc (by simp) _
 go_enter Try.func11, Try.ntmps11
 go_upto_region 2 with (first
  | (go_at_call 29; (with_reducible refine (HFE.out _ HB0.out).mono ?_); rintro e w2 ⟨vr, us, ec, rfl, hq, hnu, hb⟩; obtain ⟨s1, b1, b2, hb1⟩ := boxedTwo hb (by simp); have HQA := hidP hq; have HB2 := hidP hb1; have KM2 := hidP b1; have KR2 := hidP b2; have HNU := hidP hnu; obtain ⟨ar, cr, rfl, _⟩ := hnu.get; clear hb hq hnu hb1 b1 b2 HFE))
 have r0 := KR2.out.cell 0 (v := .int .i64 0) rfl
 have r1 := KR2.out.cell 1 (v := .slice none 0 0) rfl
 have q0 := KR2.out.fz 0
 have q1 := KR2.out.fz 1
 have m0 := KM2.out.cell 0 (v := .int .i64 z) rfl
 have m1 := KM2.out.cell 1 (v := .slice a l.length cap) rfl
 by_cases h0 : ec = 0
 rotate_left
 ·have hrn : (ec != 0) = true := by simpa using h0
  have HAN := hidP (HA1.out _ _ HQA.out h0)
  clear h0
  go_wp2
  exact bodyPost_ret (res_pth _ _ (w.heap.size + 1) ec _ _ ((KR2.out.set 0 (.int .i64 0)).set 1 (.slice none 0 0)) rfl rfl) rfl ⟨_, [], 0, ec, rfl, HAN.out, nums_nil _, (HB2.out.setCell (p := ⟨w.heap.size + 1, 0, none⟩) (Nat.le_succ _) _).setCell (p := ⟨w.heap.size + 1, 1, none⟩) (Nat.le_succ _) _⟩
 subst h0
 have hr := HFF.out _ HQA.out
 have hF : FrT l us := frt_of hr HQA.out
 have hst := (right_parts hr).1
 simp only at hst
 by_cases hz : z < 0
 ·have HAN := hidP (HA2.out _ HQA.out (.inl hz))
  clear hF hst hr
  go_wp2
  exact bodyPost_ret (res_pth _ _ (w.heap.size + 1) 12 _ _ ((KR2.out.set 0 (.int .i64 0)).set 1 (.slice none 0 0)) rfl rfl) rfl ⟨_, [], 0, 12, rfl, HAN.out, nums_nil _, (HB2.out.setCell (p := ⟨w.heap.size + 1, 0, none⟩) (Nat.le_succ _) _).setCell (p := ⟨w.heap.size + 1, 1, none⟩) (Nat.le_succ _) _⟩
 obtain ⟨zn, rfl⟩ : ∃ zn : Nat, z = (zn : Int) := ⟨z.toNat, by omega⟩
 have hzl : zn < l.length := by omega
 have huz := frt_rng hF hzl
 obtain ⟨a9, c9, e9, hcu⟩ := HNU.out.get
 simp only [Value.slice.injEq, true_and] at e9
 obtain ⟨rfl, rfl⟩ := e9
 have hul : us.length = l.length := hF.len
 rw [hul] at hcu
 try rw [hul]
 have HCU : Hid (∀ j, j < l.length → ∃ b off, ar = some ⟨b, off, none⟩ ∧ b < w2.heap.size ∧ w2.cell? ⟨b, off + j, none⟩ = some (.int .i64 (el us j))) := hcu
 obtain ⟨fb, fo, rfl, hfb, u0⟩ := hcu zn hzl
 have z0 : (0 : Int) ≤ (zn : Int) := by omega
 have z1 : (zn : Int) < (l.length : Int) := by omega
 by_cases hi : el us zn = 1000000001
 ·have HAN := hidP (HA2.out _ HQA.out (.inr (by rw [Int.toNat_natCast]; exact hi)))
  rw [hi] at u0
  clear hF hst hr hcu hz
  go_wp2
  exact bodyPost_ret (res_pth _ _ (w.heap.size + 1) 12 _ _ ((KR2.out.set 0 (.int .i64 0)).set 1 (.slice none 0 0)) rfl rfl) rfl ⟨_, [], 0, 12, rfl, HAN.out, nums_nil _, (HB2.out.setCell (p := ⟨w.heap.size + 1, 0, none⟩) (Nat.le_succ _) _).setCell (p := ⟨w.heap.size + 1, 1, none⟩) (Nat.le_succ _) _⟩
 have hto : ∀ q, q < l.length → ∀ a ∈ (el l q).2, ∃ t : Nat, a.2.2.2 = (t : Int) ∧ t < l.length := fun q hq a ha => by
  obtain ⟨i, hi, rfl⟩ := mem_el ha
  exact ((right_nums hr hq).2.2 i hi).2.2
 have hwt : ∀ q, q < l.length → ∀ a ∈ (el l q).2, 0 ≤ a.2.2.1 := fun q hq a ha => by
  obtain ⟨i, hi, rfl⟩ := mem_el ha
  exact ((right_nums hr hq).2.2 i hi).1
 have hfi : ∀ q, q < l.length → 0 ≤ (el l q).1 := fun q hq => (right_nums hr hq).1
 have hlen : l.length ≤ 60 := (right_size hr).1
 have HDO : Hid (∀ ls, LnT l us 1152921504606846976 ls → LnLe l us l.length ls → ∀ q, q < l.length → (el us q = 1000000001 ∧ el ls q = 1152921504606846976) ∨ (el us q ≠ 1000000001 ∧ ∃ k : Nat, k < l.length ∧ LenA l us q k ∧ el ls q = (k : Int))) := fun ls h1 h2 q hq => LnT.done hF hto hwt hfi h1 (by omega) h2 hq
 have HSH := hidP (fun W v (hW : Below w.heap.size w W) (h1 : Nums W v us) => shortest_any (zn : Int) l a cap v us W (HMI.out.later hW (Nat.le_refl _)) hr h1 hul fun q hq => frt_rng hF hq)
 have HA4 : Hid (∀ k L, LenA l us zn k → BstW l us k zn L → BestAns ((zn : Int), l) (el us zn) L 0) := fun k L h1 h2 => by
  have := HA3.out us HQA.out (Int.natCast_nonneg _) (by rw [Int.toNat_natCast]; exact hi) k L (by rw [Int.toNat_natCast]; exact h1) (by rw [Int.toNat_natCast]; exact h2)
  rw [Int.toNat_natCast] at this
  exact this
 have HNS : Hid (∀ q, q < l.length → (el l q).2.length ≤ 400 ∧ ∀ i, i < (el l q).2.length → 0 ≤ (el (el l q).2 i).2.2.1 ∧ (el (el l q).2 i).2.2.1 ≤ 1000000000 ∧ ∃ t : Nat, (el (el l q).2 i).2.2.2 = (t : Int) ∧ t < l.length) := fun q hq => ⟨(right_states hr q hq).2.1, (right_nums hr hq).2.2⟩
 have HRG : Hid (∀ q, q < l.length → 0 ≤ el us q ∧ el us q ≤ 1000000001) := fun q hq => frt_rng hF hq
 have hb0 : (el us zn == 1000000001) = false := by simp [hi]
 clear hF hst hr hcu hz hto hwt hfi
 go_upto_region 8 with (first
  | (go_at_call 30; (with_reducible refine (HSH.out _ _ HB2.out (by (have h9 := HNU.out); rw [hul] at h9; exact h9)).mono ?_); rintro e w3 ⟨v3, ls, rfl, hq, hn3, hb3⟩; have HLS := hidP hq; have HN3 := hidP hn3; have KM3 := hidP (KM2.out.below hb3 KM2.out.lt); have KR3 := hidP (KR2.out.below hb3 KR2.out.lt); have HB3 := hidP (HB2.out.trans (hb3.mono HB2.out.size)); have H23 := hidP hb3; have u3 := (hb3.cell (p := ⟨fb, fo + zn, none⟩) hfb).trans u0; have n0 := (hb3.cell (p := ⟨w.heap.size, 0, none⟩) KM2.out.lt).trans m0; have n1 := (hb3.cell (p := ⟨w.heap.size, 1, none⟩) KM2.out.lt).trans m1; clear hq hn3 hb3))
 obtain ⟨la, lc, rfl, hlc⟩ := HN3.out.get
 have HLn : Hid (ls.length = l.length) := HLS.out.1.len
 rw [HLn.out] at hlc
 try rw [HLn.out]
 have HLC : Hid (∀ j, j < l.length → ∃ b off, la = some ⟨b, off, none⟩ ∧ b < w3.heap.size ∧ w3.cell? ⟨b, off + j, none⟩ = some (.int .i64 (el ls j))) := hlc
 have HCU3 : Hid (∀ j, j < l.length → ∃ o, fo + j = o ∧ fb < w3.heap.size ∧ w3.cell? ⟨fb, o, none⟩ = some (.int .i64 (el us j))) := fun j hj => by
  obtain ⟨b, off, h1, h2, h3⟩ := HCU.out j hj
  injection h1 with h1
  injection h1 with e1 e2 _
  subst e1 e2
  exact ⟨_, rfl, Nat.lt_of_lt_of_le h2 H23.out.size, (H23.out.cell (p := ⟨fb, fo + j, none⟩) h2).trans h3⟩
 have HDL : Hid (∀ q, q < l.length → el us q ≠ 1000000001 → ∃ k : Nat, k < l.length ∧ LenA l us q k ∧ el ls q = (k : Int)) := fun q hq h0 => by
  rcases HDO.out ls HLS.out.1 HLS.out.2 q hq with ⟨g, _⟩ | ⟨_, g⟩
  ·exact absurd g h0
  ·exact g
 obtain ⟨k0, hk0, hL0, hl0⟩ := HDL.out zn hzl hi
 have HAK := hidP (fun L => HA4.out k0 L hL0)
 have H0 : Hid (LenA l us zn k0 ∧ el ls zn = (k0 : Int) ∧ el us zn ≠ 1000000001) := ⟨hL0, hl0, hi⟩
 have PB := hidP (Blk.made w3 #[.int .i64 (el us zn), .slice none 0 0] 28)
 have OI : Hid (OwnI (w3.alloc (.cells #[.int .i64 (el us zn), .slice none 0 0] 28)) (w3.heap.size + 1) (.slice none 0 0) (([] : List Nat).map fun i : Nat => (i : Int))) := OwnI.nil _ _
 have HP4 : Hid (Below w3.heap.size w3 (w3.alloc (.cells #[.int .i64 (el us zn), .slice none 0 0] 28))) := (Below.refl _ _).alloc (Nat.le_refl _) _
 have hR3 := KR3.out.lt
 have HAr : Hid (∀ j, j < l.length → ∃ b off va, a = some ⟨b, off, none⟩ ∧ b < w.heap.size ∧ w.cell? ⟨b, off + j * 2, none⟩ = some (.int .i64 (el l j).1) ∧ w.cell? ⟨b, off + j * 2 + 1, none⟩ = some va ∧ Arcs w va (el l j).2) := by
  obtain ⟨_, he, hS⟩ := HMI.out
  simp only [Value.agg.injEq, Array.mk.injEq, List.cons.injEq, and_true, true_and] at he
  subst he
  obtain ⟨a', cap', hsl, hc⟩ := hS.get
  simp only [Value.slice.injEq, true_and] at hsl
  obtain ⟨rfl, rfl⟩ := hsl
  exact hc
 have m4 := (HP4.out.cell (p := ⟨w.heap.size, 0, none⟩) KM3.out.lt).trans n0
 clear HN3 hlc HCU H23 HDO HLS HSH HA1 HA2 HA3 HA4 HFF HMI HOK KM2 KR2 HB2 r0 r1 q0 q1 m0 m1 u0 u3 hL0 hl0 HNU hb0
 generalize hN : l.length = N at *
 clear hN
 obtain ⟨wz, hwz⟩ : ∃ wz, el us zn = wz := ⟨_, rfl⟩
 have HWZ := hidP hwz
 rw [hwz] at PB OI HP4 HAK m4
 try rw [hwz]
 clear hwz hi huz
 generalize w3.alloc (.cells #[.int .i64 wz, .slice none 0 0] 28) = w4 at *
 go_wp2
 go_loopw [8] (fun s8 wr => ∃ (q k : Nat) (D : List Nat) (pa : Option Addr) (pc : Nat), s8 = .int .i64 q ∧ q < N ∧ k < N ∧ Hid (LenA l us q k ∧ el ls q = (k : Int) ∧ el us q ≠ 1000000001) ∧ Hid (∀ R, BstW l us k q R → BstW l us k0 zn (D ++ R)) ∧ D.length + k ≤ 60 ∧ Hid (Blk wr w3.heap.size #[.int .i64 wz, .slice pa D.length pc] 28) ∧ Hid (OwnI wr (w3.heap.size + 1) (.slice pa D.length pc) (D.map fun i : Nat => (i : Int))) ∧ Hid (Below w3.heap.size w3 wr)) (fun s8 _ => (el ls (intOf s8).toNat).toNat)
 case atStart => exact ⟨zn, k0, [], none, 0, by go_num, hzl, hk0, H0.out, fun R h => h, by simp; omega, PB, OI, HP4⟩
 case round =>
  clear H0 PB OI HP4 m4
  obtain ⟨q, k, D, pa, pc, rfl, hqN, hkN, hK, hPre, hDk, hP, hO, hb⟩ := hrel
  have hq0 : (0 : Int) ≤ (q : Int) := by omega
  have hq1 : (q : Int) < (N : Int) := by omega
  obtain ⟨lb, lo, rfl, hlb, e0⟩ := HLC.out q hqN
  have c0 := (hb.out.cell (p := ⟨lb, lo + q, none⟩) hlb).trans e0
  rw [hK.out.2.1] at c0
  have d1 := (hb.out.cell (p := ⟨w.heap.size, 1, none⟩) KM3.out.lt).trans n1
  by_cases hk : 0 < k
  ·obtain ⟨j, rfl⟩ : ∃ j, k = j + 1 := ⟨k - 1, by omega⟩
   have hk1 : (0 : Int) < ((j + 1 : Nat) : Int) := by omega
   have HFA : Hid (∃ i, i < (el l q).2.length ∧ TgA us q (el (el l q).2 i) ∧ LenA l us (el (el l q).2 i).2.2.2.toNat j) := hK.out.1.arc
   obtain ⟨hal, hAR⟩ := HNS.out q hqN
   have HARx := hidP hAR
   obtain ⟨b, off, va, rfl, hbl, s0, s1, sAr⟩ := HAr.out q hqN
   obtain ⟨sa, sc, rfl, hca⟩ := sAr.get
   have HCA := hidP hca
   have HS1 := hidP s1
   clear hca sAr s0 s1 hAR e0
   go_wp2
   go_loopw [8, 9] (fun s8 s9 wr => ∃ (i : Nat), s8 = .int .i64 q ∧ s9 = .int .i64 i ∧ i ≤ (el l q).2.length ∧ Hid (∀ p, p < i → ¬ (TgA us q (el (el l q).2 p) ∧ LenA l us (el (el l q).2 p).2.2.2.toNat j)) ∧ Hid (Blk wr w3.heap.size #[.int .i64 wz, .slice pa D.length pc] 28) ∧ Hid (OwnI wr (w3.heap.size + 1) (.slice pa D.length pc) (D.map fun i : Nat => (i : Int))) ∧ Hid (Below w3.heap.size w3 wr)) (fun _ s9 _ => (el l q).2.length - (intOf s9).toNat)
   case atStart => exact ⟨0, rfl, by go_num, Nat.zero_le _, fun p hp => absurd hp (Nat.not_lt_zero _), hP, hO, hb⟩
   case round =>
    clear hP hO hb c0 d1
    obtain ⟨i, rfl, rfl, hi, hNo, hP, hO, hb⟩ := hrel
    have HBw := hidP (HB3.out.trans (hb.out.mono HB3.out.size))
    have d1 := (hb.out.cell (p := ⟨w.heap.size, 1, none⟩) KM3.out.lt).trans n1
    have c1 := (HBw.out.cell (p := ⟨b, off + q * 2 + 1, none⟩) hbl).trans HS1.out
    by_cases hiA : i < (el l q).2.length
    ·have hi0 : (0 : Int) ≤ (i : Int) := by omega
     have hi1 : (i : Int) < ((el l q).2.length : Int) := by omega
     obtain ⟨b4, of4, rfl, hb4, g0, g1, g2, g3⟩ := HCA.out i hiA
     obtain ⟨hw0, hw9, t, et, htN⟩ := HARx.out i hiA
     obtain ⟨oq, eq1, hfb3, uq⟩ := HCU3.out q hqN
     obtain ⟨ot, eq2, _, ut⟩ := HCU3.out t htN
     subst eq1 eq2
     obtain ⟨lb', lo', hle, hlb', lq⟩ := HLC.out q hqN
     obtain ⟨lb'', lo'', hle2, hlb'', lt'⟩ := HLC.out t htN
     injection hle with hle
     injection hle with x1 x2 _
     subst x1 x2
     injection hle2 with hle2
     injection hle2 with x1 x2 _
     subst x1 x2
     rw [hK.out.2.1] at lq
     have hrq := HRG.out q hqN
     have hrt := HRG.out t htN
     have HTG : Hid (TgA us q (el (el l q).2 i) ↔ el us t ≠ 1000000001 ∧ (el (el l q).2 i).2.2.1 + el us t = el us q) := by (show _ ↔ _); unfold TgA; rw [et, Int.toNat_natCast]
     have HTO : Hid ((el (el l q).2 i).2.2.2.toNat = t) := by (show _ = _); rw [et, Int.toNat_natCast]
     have HLT : Hid (el us t ≠ 1000000001 → (el ls t = (j : Int) ↔ LenA l us t j) ∧ 0 ≤ el ls t ∧ el ls t ≤ 60) := fun h => by
      obtain ⟨kt, g1, g2, g3⟩ := HDL.out t htN h
      refine ⟨⟨fun e => by rw [show j = kt by omega]; exact g2, fun e => by rw [g3]; have : kt = j := g2.one e; omega⟩, by omega, by omega⟩
     have HNX : Hid (¬ (TgA us q (el (el l q).2 i) ∧ LenA l us t j) → ∀ p, p < i + 1 → ¬ (TgA us q (el (el l q).2 p) ∧ LenA l us (el (el l q).2 p).2.2.2.toNat j)) := fun h p hp => by
      rcases Nat.lt_or_ge p i with x | x
      ·exact hNo.out p x
      ·rw [show p = i by omega, HTO.out]; exact h
     have HFD : Hid (TgA us q (el (el l q).2 i) → LenA l us t j → ∀ R, BstW l us j t R → BstW l us k0 zn ((D ++ [i]) ++ R)) := fun h1 h2 R hR => by
      rw [List.append_assoc]
      exact hPre.out _ (.cons hiA h1 (by rw [HTO.out]; exact h2) hNo.out (by rw [HTO.out]; exact hR))
     have g2 := (HBw.out.cell (p := ⟨b4, of4 + i * 4 + 2, none⟩) hb4).trans g2
     have g3 := (HBw.out.cell (p := ⟨b4, of4 + i * 4 + 3, none⟩) hb4).trans g3
     have g0 := (HBw.out.cell (p := ⟨b4, of4 + i * 4, none⟩) hb4).trans g0
     have g1 := (HBw.out.cell (p := ⟨b4, of4 + i * 4 + 1, none⟩) hb4).trans g1
     rw [et] at g3
     clear et
     generalize TgA us q (el (el l q).2 i) = TG at *
     generalize el (el l q).2 i = ac at *
     obtain ⟨p0, p1, p2, p3⟩ := ac
     simp only at g0 g1 g2 hw0 hw9
     have HTG : Hid (TG ↔ el us t ≠ 1000000001 ∧ p2 + el us t = el us q) := HTG.out
     have X1 := hidP (Blk.made wr #[.int .i64 p0, .int .i64 p1, .int .i64 p2, .int .i64 (t : Int)] 64)
     have P5 := hidP (hP.out.alloc (.cells #[.int .i64 p0, .int .i64 p1, .int .i64 p2, .int .i64 (t : Int)] 64))
     have O5 : Hid (OwnI (wr.alloc (.cells #[.int .i64 p0, .int .i64 p1, .int .i64 p2, .int .i64 (t : Int)] 64)) (w3.heap.size + 1) (.slice pa D.length pc) (D.map fun i : Nat => (i : Int))) := hO.out.later ((Below.refl _ _).alloc (Nat.le_refl _) _)
     have B5 := hidP (hb.out.alloc hb.out.size (.cells #[.int .i64 p0, .int .i64 p1, .int .i64 p2, .int .i64 (t : Int)] 64))
     have hwl := hb.out.size
     have hQ1 := hP.out.lt
     have UQ := hidP uq
     have UT := hidP ut
     have LQ := hidP lq
     have LT := hidP lt'
     clear uq ut lq lt'
     go_upto_region 14 with fail
     clear g0 g1 g2 g3 d1 c1 hP hO hb
     generalize wr.alloc (.cells #[.int .i64 p0, .int .i64 p1, .int .i64 p2, .int .i64 (t : Int)] 64) = w8 at *
     generalize wr.heap.size = Q1 at *
     have x2 := X1.out.cell 2 (v := .int .i64 p2) rfl
     have x3 := X1.out.cell 3 (v := .int .i64 (t : Int)) rfl
     have y0 := (B5.out.cell (p := ⟨fb, fo + q, none⟩) hfb3).trans UQ.out
     have y1 := (B5.out.cell (p := ⟨fb, fo + t, none⟩) hfb3).trans UT.out
     have l0 := (B5.out.cell (p := ⟨lb, lo + q, none⟩) hlb').trans LQ.out
     have l1 := (B5.out.cell (p := ⟨lb, lo + t, none⟩) hlb').trans LT.out
     have ht0 : (0 : Int) ≤ (t : Int) := by omega
     have ht1 : (t : Int) < (N : Int) := by omega
     obtain ⟨j1, hj1⟩ : ∃ j1 : Int, ((j + 1 : Nat) : Int) = j1 := ⟨_, rfl⟩
     rw [hj1] at l0
     have k2 : IntKind.i64.wrap (j1 - 1) = (j : Int) := by rw [wrapI (by omega) (by omega)]; omega
     generalize hxt : el us t = xt at *
     have HXT := hidP hxt
     clear hxt
     generalize el us q = xq at *
     generalize hyt : el ls t = yt at *
     have HYT := hidP hyt
     clear hyt
     have k1 : IntKind.i64.wrap (p2 + xt) = p2 + xt := wrapI (by omega) (by omega)
     clear hj1 UQ UT LQ LT
     by_cases e0 : xt = 1000000001
     ·have b0 : (xt != 1000000001) = false := by simp [e0]
      have HX := hidP (HNX.out fun h9 => (HTG.out.1 h9.1).1 e0)
      clear e0 HTG HLT HNX HFD
      go_quiet (fail)
      go_wp2
      go_roundw
      case rel => exact ⟨i + 1, rfl, by go_num, by omega, HX, P5.out.drewN _, O5.out.later (below_drewI (Below.refl _ _) _), below_drewI B5.out _⟩
      case measure => simp [intOf]; omega
     have b0 : (xt != 1000000001) = true := by simp [e0]
     by_cases e1 : p2 + xt = xq
     rotate_left
     ·have b1 : (p2 + xt == xq) = false := by simp [e1]
      have HX := hidP (HNX.out fun h9 => e1 (HTG.out.1 h9.1).2)
      clear e0 e1 HTG HLT HNX HFD
      go_quiet (fail)
      go_wp2
      go_roundw
      case rel => exact ⟨i + 1, rfl, by go_num, by omega, HX, P5.out.drewN _, O5.out.later (below_drewI (Below.refl _ _) _), below_drewI B5.out _⟩
      case measure => simp [intOf]; omega
     have b1 : (p2 + xt == xq) = true := by simp [e1]
     obtain ⟨hlt1, hlt2, hlt3⟩ := HLT.out e0
     have HL1 := hidP hlt1
     have HTT : Hid TG := HTG.out.2 ⟨e0, e1⟩
     have HE0 := hidP e0
     clear e0 e1 HTG HLT hlt1
     by_cases e2 : yt = (j : Int)
     rotate_left
     ·have b2 : (yt == (j : Int)) = false := by simp [e2]
      have HX := hidP (HNX.out fun h9 => e2 (HL1.out.2 h9.2))
      clear e2 HL1 HNX HFD
      go_quiet (fail)
      go_wp2
      go_roundw
      case rel => exact ⟨i + 1, rfl, by go_num, by omega, HX, P5.out.drewN _, O5.out.later (below_drewI (Below.refl _ _) _), below_drewI B5.out _⟩
      case measure => simp [intOf]; omega
     have b2 : (yt == (j : Int)) = true := by simp [e2]
     have HLN := hidP (HL1.out.1 e2)
     have HE2 := hidP e2
     have HPR := hidP (HFD.out HTT.out HLN.out)
     clear HL1 HFD HNX
     go_quiet (fail)
     have P9 := hidP (P5.out.drewN nq)
     have X9 := hidP (X1.out.drewN nq)
     have B9 := hidP (below_drewI B5.out nq)
     have O9 : OwnI (w8.drewN nq) (w3.heap.size + 1) (.slice pa D.length pc) (D.map fun i : Nat => (i : Int)) := O5.out.later (below_drewI (Below.refl _ _) _)
     have hsz9 : w3.heap.size + 1 ≤ (w8.drewN nq).heap.size := P9.out.lt
     have y3 := X9.out.cell 3 (v := .int .i64 (t : Int)) rfl
     clear x2 x3 y0 y1 l0 l1 P5 O5 B5 X1
     generalize w8.drewN nq = w9 at *
     obtain ⟨a4, c4, w10, r4, o4, b10, g10⟩ := O9.pushG (i : Int) (by rw [List.length_map]; omega) hsz9
     rw [List.length_map] at r4 o4
     have R4 := hidP r4
     have O4 := hidP o4
     have P10 := hidP (P9.out.below b10 (Nat.lt_succ_self _))
     have X10 := hidP ((X9.out.alloc (.cells #[.int .i64 (i : Int)] 3)).grown g10 (own_ne O9 X9.out (by decide)))
     have hQ10 := X10.out.lt
     have B10 := hidP (B9.out.trans (b10.mono (Nat.le_succ _)))
     have p9 := P9.out.cell 1 (v := .slice pa D.length pc) rfl
     have s4 := P10.out.cell 1 (v := .slice pa D.length pc) rfl
     have g4 := P10.out.fz 1
     have P11 := hidP (P10.out.set 1 (.slice a4 (D.length + 1) c4))
     have X11 := hidP (X10.out.setO ⟨w3.heap.size, 1, none⟩ (.slice a4 (D.length + 1) c4) (by show Q1 ≠ w3.heap.size; omega))
     have z3 := X11.out.cell 3 (v := .int .i64 (t : Int)) rfl
     have B11 := hidP (B10.out.setCell (p := ⟨w3.heap.size, 1, none⟩) (Nat.le_refl _) (.slice a4 (D.length + 1) c4))
     have O11 : Hid (OwnI (w10.setCell ⟨w3.heap.size, 1, none⟩ (.slice a4 (D.length + 1) c4)) (w3.heap.size + 1) (.slice a4 (D.length + 1) c4) (((D ++ [i]).map fun i : Nat => (i : Int)))) := by
      show OwnI _ _ _ _
      rw [List.map_append]
      exact ownsRow_setCell_below O4.out (a := ⟨w3.heap.size, 1, none⟩) (Nat.lt_succ_self _) _
     have HDE : Hid ((D ++ [i]).length = D.length + 1) := by (show _ = _); simp
     have HKN : Hid (LenA l us t j ∧ el ls t = (j : Int) ∧ el us t ≠ 1000000001) := ⟨HLN.out, HYT.out.trans HE2.out, fun h => HE0.out (HXT.out.symm.trans h)⟩
     have HMS : Hid ((el ls ((t : Int)).toNat).toNat < (el ls ((q : Int)).toNat).toNat) := by
      show _ < _
      rw [Int.toNat_natCast, Int.toNat_natCast, HKN.out.2.1, hK.out.2.1]
      omega
     clear r4 o4 b10 g10 O9 y3
     go_wp2_with (first
      | (at_builtin; refine wpListAppendRun rfl _ _ 26 rfl rfl rfl R4.out ?_; clear R4))
     go_roundw
     case rel => exact ⟨t, j, D ++ [i], a4, c4, by go_num, htN, by omega, HKN, HPR, by rw [HDE.out]; omega, by rw [HDE.out]; exact P11.out, by rw [HDE.out]; exact O11.out, B11⟩
     case measure => exact HMS.out
    ·have hex := HFA.out
     obtain ⟨i2, h1, h2, h3⟩ := hex
     exact absurd ⟨h2, h3⟩ (hNo.out i2 (by omega))
  ·obtain rfl : k = 0 := by omega
   have hk1 : ¬ (0 : Int) < ((0 : Nat) : Int) := by omega
   have HB := hidP (HAK.out (D ++ []) (hPre.out [] .nil))
   have hR9 : w.heap.size + 1 < w3.heap.size + 1 := by omega
   rw [List.append_nil] at HB
   have KRr := hidP (KR3.out.below hb.out KR3.out.lt)
   have p0 := hP.out.cell 0 (v := .int .i64 wz) rfl
   have p1 := hP.out.cell 1 (v := .slice pa D.length pc) rfl
   have r0 := KRr.out.cell 0 (v := .int .i64 0) rfl
   have r1 := KRr.out.cell 1 (v := .slice none 0 0) rfl
   have f0 := KRr.out.fz 0
   have f1 := KRr.out.fz 1
   go_wp2
   exact bodyPost_ret (res_pth _ _ (w.heap.size + 1) 0 _ _ ((KRr.out.set 0 (.int .i64 wz)).set 1 (.slice pa D.length pc)) rfl rfl) rfl ⟨_, D, wz, 0, rfl, HB.out, OwnI.nums (base := w3.heap.size + 1) (ownsRow_setCell_below (ownsRow_setCell_below hO.out hR9 _) hR9 _), ((HB3.out.trans (hb.out.mono HB3.out.size)).setCell (p := ⟨w.heap.size + 1, 0, none⟩) (Nat.le_succ _) _).setCell (p := ⟨w.heap.size + 1, 1, none⟩) (Nat.le_succ _) _⟩
theorem sameNums_any (v1 v2 : Value) (l : List Int) (w : World) (h1 : Nums w v1 l) (h2 : Nums w v2 l) (hl : l.length ≤ 17592186044416) :
  Calls Try.prog 12 #[v1, v2] w fun e w' => e = .returned (.bool true) ∧ Below w.heap.size w w' := by
 obtain ⟨a, cap, rfl, hc⟩ := h1.get
 obtain ⟨a2, cap2, rfl, hc2⟩ := h2.get
 have HC : Hid (∀ j, j < l.length → ∃ b off, a = some ⟨b, off, none⟩ ∧ b < w.heap.size ∧ w.cell? ⟨b, off + j, none⟩ = some (.int .i64 (el l j))) := hc
 have HC2 : Hid (∀ j, j < l.length → ∃ b off, a2 = some ⟨b, off, none⟩ ∧ b < w.heap.size ∧ w.cell? ⟨b, off + j, none⟩ = some (.int .i64 (el l j))) := hc2
 clear h1 h2 hc hc2
 generalize l.length = n at *
 go_enter Try.func12, Try.ntmps12
 go_wp2
 go_loopw [5] (fun i wr => ∃ k q : Nat, k ≤ n ∧ i = .int .i64 k ∧ wr = w.drewN q) (fun i _ => n - (intOf i).toNat)
 case atStart => exact ⟨0, 0, Nat.zero_le _, rfl, (World.drewN_zero w).symm⟩
 case round =>
  obtain ⟨k, q, hk, rfl, rfl⟩ := hrel
  by_cases hlt : k < n
  ·obtain ⟨b, off, rfl, _, g0⟩ := HC.out k hlt
   obtain ⟨b2, off2, rfl, _, r0⟩ := HC2.out k hlt
   have hk0 : (0 : Int) ≤ (k : Int) := by omega
   have hk1 : (k : Int) < (n : Int) := by omega
   generalize el l k = x at *
   go_wp2
   go_quiet (fail)
   go_wp2
   go_roundw
   case rel => exact ⟨k + 1, q + nq, by omega, by go_num, by first | rfl | rw [World.drewN_drewN]⟩
   case measure => simp [intOf]; omega
  ·have hnl : ¬ (k : Int) < (n : Int) := by omega
   go_wp2
   go_ret
   exact ⟨rfl, below_drewN (Below.refl _ _) q⟩
end Go.Proofs.Ytobhjhjfannnnaa.Wt
