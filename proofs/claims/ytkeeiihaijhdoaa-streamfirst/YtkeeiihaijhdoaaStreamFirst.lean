/- The statement StreamFirst: no word that costs as much as what comes out is shorter, or lower at the first place where they differ, for every input and without any condition. -/
import Derived.Test.YtkeeiihaijhdoaaCam
import Derived.Test.YtkeeiihaijhdoaaCan
import Derived.Test.YtkeeiihaijhdoaaCak
import Derived.Test.YtkeeiihaijhdoaaCao
import Derived.Test.YtkeeiihaijhdoaaCap
import Derived.Test.YtkeeiihaijhdoaaCat
import Derived.Test.YtkeeiihaijhdoaaCau
import Derived.Test.YtkeeiihaijhdoaaCal
import Derived.Test.YtkeeiihaijhdoaaCac
import Derived.Test.YtkeeiihaijhdoaaCab
import Derived.Lib.SmallJoins
import Derived.ChangeOld
import Derived.Below
namespace Go.Proofs.Ytkeeiihaijhdoaa.streamFirst
open Go.ChangeShapes Go.WideShapes Go.ChangeAt Go.RowKit
open Go.Proofs.Ytkeeiihaijhdoaa.Pl Go.Proofs.Ytkeeiihaijhdoaa.Wt Go.Proofs.Ytkeeiihaijhdoaa.Sm
set_option linter.unusedVariables false
set_option linter.unusedSimpArgs false
theorem own : ownKnob Try.prog.godebug = none := by kernel_rfl
theorem laidOut : laidOutB Try.prog = true := by kernel_rfl
theorem made_cut (r : Rw) : CutM (madeM r 6 false) := by
 have hf := madeM_right r 6 (by omega) (by omega) false
 refine ⟨hf, ?_, (pkR_bd r.1 (sizeM r 6) (by unfold sizeM; omega)).1, fun q a ha => ?_⟩
 ·rw [show (madeM r 6 false).2.length = sizeM r 6 from statesM_length _ _ _]; unfold sizeM; omega
 ·unfold arcS at ha
  by_cases hq : q.toNat < (madeM r 6 false).2.length
  ·exact (made_nine r 6 false _ (el_mem hq)).2 a ha
  ·have : el (madeM r 6 false).2 q.toNat = default := by
    simp [el, List.getD_eq_getElem?_getD, List.getElem?_eq_none (show (madeM r 6 false).2.length ≤ q.toNat by omega)]
   rw [this] at ha
   cases ha
theorem word_labN (z : List Int) (k : Nat) : labB (wdL z k) = true := by
 unfold labB
 exact List.all_eq_true.2 fun n hn => by rcases wdL_mem hn with rfl | rfl <;> decide
theorem lab_wrd {y : List Int} (h : labB y = true) (hy : y.length ≤ 12) : wrdE y = 0 := by
 unfold wrdE
 rw [if_neg (by omega)]
 exact if_pos h
set_option maxRecDepth 100000 in
set_option maxHeartbeats 4000000 in
theorem core (v : Value) (r : Rw) (vz : Value) (z : List Int) (vq : Value) (zq : List Int) (w : World) (h : RawV w v r) (hok : okR r) (hwf : wfR r) (hz : Nums w vz z) (hzw : ∀ n ∈ z, (Lit.int .i64 n).wf = true) (hq : Nums w vq zq) (hqw : ∀ n ∈ zq, (Lit.int .i64 n).wf = true) :
  Calls Try.prog 8 #[v, vz, vq] w fun e w' => e = .returned (.bool true) ∧ Below w.heap.size w w' := by
 have HMD : Hid (∀ W v, RawV W v r → Calls Try.prog 21 #[v, .int .i64 6, .bool false] W fun e w' => ∃ v', e = .returned v' ∧ Mach w' v' (madeM r 6 false) ∧ Below W.heap.size W w') := fun W v h1 => made_any v r 6 false W h1 hok hwf (by omega) (by omega)
 have HWD : Hid (∀ v W, Nums W v z → Calls Try.prog 22 #[v, .int .i64 6] W fun e w' => ∃ v', e = .returned v' ∧ Nums w' v' (wdL z 6) ∧ Below W.heap.size W w') := fun v W h1 => word_any v z 6 W h1 hzw (by omega)
 have HCM := hidP (made_cut r)
 have HCH := hidP (made_cheap r 6 false)
 have HLB := hidP (word_labN z 6)
 have HWX : Hid (wrdE (wdL z 6) = 0) := wdL_wrd (by omega)
 have hx12 : (wdL z 6).length ≤ 12 := by have := wdL_len z 6; omega
 have HI := hidP h
 have HZ := hidP hz
 have HWE : Hid (∀ v W, Nums W v zq → Calls Try.prog 22 #[v, .int .i64 4] W fun e w' => ∃ v', e = .returned v' ∧ Nums w' v' (wdL zq 4) ∧ Below W.heap.size W w') := fun v W h1 => word_any v zq 4 W h1 hqw (by omega)
 have HWQ : Hid (wrdE (wdL zq 4) = 0) := wdL_wrd (by omega)
 have hq12 : (wdL zq 4).length ≤ 12 := by have := wdL_len zq 4; omega
 have HQ := hidP hq
 clear hok hwf hzw h hqw
 generalize madeM r 6 false = m at *
 generalize wdL z 6 = x at *
 generalize wdL zq 4 = zz at *
 have HK : Hid (okM m) := right_okM HCM.out.ok
 have HL : Hid (x.length ≤ 17592186044000) := by show _ ≤ _; omega
 obtain ⟨az, cz, rfl⟩ := Row.sl hz
 obtain ⟨aq, cq, rfl⟩ := Row.sl hq
 obtain ⟨k, hk⟩ : ∃ k, CstIs (Costs m x zz) k := cst_exists (costs_bound HCM.out.ok HCH.out hx12 hq12)
 have HKK := hidP hk
 have hk0 : 0 ≤ k := hk.nonneg
 have HCZ : Hid (∀ W v u t, Mach W v m → Nums W u x → Nums W t zz → Calls Try.prog 26 #[v, u, t] W fun e w' => e = .returned (.int .i64 k) ∧ Below W.heap.size W w') := fun W v u t h1 h2 h3 => (cost_any v u t _ _ _ W h1 HK.out HCM.out.ok HCH.out h2 h3 HWX.out HWQ.out).mono fun e w' ⟨n', he, ha, hb⟩ => by
  have := ha.eq HKK.out (fun c => Iff.rfl)
  subst this
  exact ⟨he, hb⟩
 clear hk
 obtain ⟨vr0, rfl, hN⟩ := HI.out
 obtain ⟨ar, cr, rfl, hN2⟩ := hN.get
 clear hN hN2
 clear hz hq
 have HU : Hid (Below w.heap.size w (w.alloc (.cells #[.int .i64 r.1, .slice ar r.2.length cr] 46))) := by show Below _ _ _; go_grown
 go_enter Try.func8, Try.ntmps8
 go_wp2_with (first
  | (go_at_call 21; (with_reducible refine (HMD.out _ _ (HI.out.later HU.out (Nat.le_refl _))).mono ?_); rintro e w1 ⟨v1, rfl, hm, hb⟩; have HMa := hidP hm; obtain ⟨vs1, rfl, hS1⟩ := hm; obtain ⟨a, cap, rfl⟩ := hS1.sl; clear hS1; have HU1 : Hid (Below w1.heap.size w1 (w1.alloc (.cells #[.int .i64 m.1, .slice a m.2.length cap] 24))) := (Below.refl _ _).alloc (Nat.le_refl _) _; have HB1 : Hid (Below w.heap.size w (w1.alloc (.cells #[.int .i64 m.1, .slice a m.2.length cap] 24))) := (HU.out.trans (hb.mono HU.out.size)).trans (HU1.out.mono (HU.out.trans (hb.mono HU.out.size)).size); have BM1 : Hid (Blk (w1.alloc (.cells #[.int .i64 m.1, .slice a m.2.length cap] 24)) w1.heap.size #[.int .i64 m.1, .slice a m.2.length cap] 24) := Blk.made w1 _ _; have HM1 : Hid (Mach (w1.alloc (.cells #[.int .i64 m.1, .slice a m.2.length cap] 24)) (.agg #[.int .i64 m.1, .slice a m.2.length cap]) m) := HMa.out.later HU1.out (Nat.le_refl _); clear hb HMa)
  | (go_at_call 22; (with_reducible refine (HWD.out _ _ (HZ.out.later HB1.out (Nat.le_refl _))).mono ?_); rintro e w2 ⟨v2, rfl, hn, hb⟩; obtain ⟨a82, c82, rfl⟩ := Row.sl hn; have HX2 := hidP hn; have BM2 := hidP (BM1.out.below hb BM1.out.lt); have HM2 := hidP (HM1.out.later hb (Nat.le_refl _)); have HB2 : Hid (Below w.heap.size w w2) := HB1.out.trans (hb.mono HB1.out.size); have m02 := BM2.out.cell 0 (v := .int .i64 m.1) rfl; have m12 := BM2.out.cell 1 (v := .slice a m.2.length cap) rfl; clear hn hb BM1 HM1)
  | (go_at_call 22; (with_reducible refine (HWE.out _ _ (HQ.out.later HB2.out (Nat.le_refl _))).mono ?_); rintro e w7 ⟨v7, rfl, hn, hb⟩; obtain ⟨a87, c87, rfl⟩ := Row.sl hn; have HQ7 := hidP hn; have BM7 := hidP (BM2.out.below hb BM2.out.lt); have HM7 := hidP (HM2.out.later hb (Nat.le_refl _)); have HB7 : Hid (Below w.heap.size w w7) := HB2.out.trans (hb.mono HB2.out.size); have HX7 := hidP (HX2.out.later hb (Nat.le_refl _)); clear HX2; have m07 := BM7.out.cell 0 (v := .int .i64 m.1) rfl; have m17 := BM7.out.cell 1 (v := .slice a m.2.length cap) rfl; clear hn hb BM2 HM2 m02 m12)
  | (go_at_call 10; (with_reducible refine (beginP_any _ m _ HM7.out HK.out).mono ?_); rintro e w3 ⟨⟨af, al⟩, e3, hans, v3, rfl, hr3, hb⟩; have HAN := hidP hans; have HOA := hidP (cut_begok HCM.out hans); obtain ⟨vs3, rfl, hm3⟩ := hr3; simp only at hm3; obtain ⟨aa, ac, rfl⟩ := hm3.sl; have HU3 : Hid (Below w3.heap.size w3 (w3.alloc (.cells #[.int .i64 af, .slice aa al.length ac] 28))) := (Below.refl _ _).alloc (Nat.le_refl _) _; have HBx : Hid (Below w7.heap.size w7 (w3.alloc (.cells #[.int .i64 af, .slice aa al.length ac] 28))) := hb.trans (HU3.out.mono hb.size); have BMB := hidP (BM7.out.below HBx.out BM7.out.lt); have HMB := hidP (HM7.out.later HBx.out (Nat.le_refl _)); have HBB : Hid (Below w.heap.size w _) := HB7.out.trans (HBx.out.mono HB7.out.size); have BAB : Hid (Blk (w3.alloc (.cells #[.int .i64 af, .slice aa al.length ac] 28)) w3.heap.size #[.int .i64 af, .slice aa al.length ac] 28) := Blk.made w3 _ _; have HaB : Hid (RunV (w3.alloc (.cells #[.int .i64 af, .slice aa al.length ac] 28)) (.agg #[.int .i64 af, .slice aa al.length ac]) (af, al)) := RunV.later ⟨_, rfl, hm3⟩ HU3.out (Nat.le_refl _); have HXB := hidP (HX7.out.later HBx.out (Nat.le_refl _)); clear HX7; have HQB := hidP (HQ7.out.later HBx.out (Nat.le_refl _)); clear HQ7; have m0B := BMB.out.cell 0 (v := .int .i64 m.1) rfl; have m1B := BMB.out.cell 1 (v := .slice a m.2.length cap) rfl; clear hans hm3 hb m07 m17 HM7 BM7 HBx)
  | (go_at_call 16; (with_reducible refine (feedP_any _ _ _ m (af, al) x _ HMB.out HK.out HaB.out HOA.out HXB.out HL.out).mono ?_); rintro e w4 ⟨⟨sf, sl⟩, f4, hans, v4, rfl, hr4, hb⟩; have HOS := hidP (fed_ok hans); obtain ⟨he0, hf0, hal, hEI⟩ := endIs_of HCM.out HCH.out HLB.out hx12 HAN.out hans; subst he0 hf0; have HEI := hidP hEI; obtain ⟨vs4, rfl, hm4⟩ := hr4; simp only at hm4 hal; obtain ⟨sa, sc, rfl⟩ := hm4.sl; have HU4 : Hid (Below w4.heap.size w4 (w4.alloc (.cells #[.int .i64 sf, .slice sa sl.length sc] 28))) := (Below.refl _ _).alloc (Nat.le_refl _) _; have HBx : Hid (Below (w3.alloc (.cells #[.int .i64 af, .slice aa al.length ac] 28)).heap.size (w3.alloc (.cells #[.int .i64 af, .slice aa al.length ac] 28)) (w4.alloc (.cells #[.int .i64 sf, .slice sa sl.length sc] 28))) := hb.trans (HU4.out.mono hb.size); have BMF := hidP (BMB.out.below HBx.out BMB.out.lt); have BAF := hidP (BAB.out.below HBx.out BAB.out.lt); have HMF := hidP (HMB.out.later HBx.out (Nat.le_refl _)); have HBF : Hid (Below w.heap.size w _) := HBB.out.trans (HBx.out.mono HBB.out.size); have BSF : Hid (Blk (w4.alloc (.cells #[.int .i64 sf, .slice sa sl.length sc] 28)) w4.heap.size #[.int .i64 sf, .slice sa sl.length sc] 28) := Blk.made w4 _ _; have HsF : Hid (RunV (w4.alloc (.cells #[.int .i64 sf, .slice sa sl.length sc] 28)) (.agg #[.int .i64 sf, .slice sa sl.length sc]) (sf, sl)) := RunV.later ⟨_, rfl, hm4⟩ HU4.out (Nat.le_refl _); have HXF := hidP (HXB.out.later HBx.out (Nat.le_refl _)); clear HXB; have HQF := hidP (HQB.out.later HBx.out (Nat.le_refl _)); clear HQB; have m0F := BMF.out.cell 0 (v := .int .i64 m.1) rfl; have m1F := BMF.out.cell 1 (v := .slice a m.2.length cap) rfl; clear hans hm4 hb hEI m0B m1B HMB BMB BAB HaB HBx))
 have hal0 : ((al.length : Int) == 0) = false := by simp only [beq_eq_false_iff_ne, ne_eq]; omega
 rcases endIs_first HEI.out HKK.out with ⟨rfl, hT⟩ | ⟨y, c, hT, hy8, hkc | ⟨rfl, hlen, hlex⟩⟩
 ·clear hk0
  go_wp2_with (first
   | (go_at_call 19; (with_reducible refine (endP_any _ _ m (sf, sl) _ HMF.out HK.out HsF.out HOS.out).mono ?_); rintro e w5 ⟨vo, rfl, hn, hb⟩; rw [hT] at hn ⊢; simp only at hn ⊢; obtain ⟨ya, yc, rfl⟩ := Row.sl hn; have HY5 := hidP hn; have BM5 := hidP (BMF.out.below hb BMF.out.lt); have BA5 := hidP (BAF.out.below hb BAF.out.lt); have HM5 := hidP (HMF.out.later hb (Nat.le_refl _)); have HX5 := hidP (HXF.out.later hb (Nat.le_refl _)); have HQ5 := hidP (HQF.out.later hb (Nat.le_refl _)); have HB5 : Hid (Below w.heap.size w _) := HBF.out.trans (hb.mono HBF.out.size); have m05 := BM5.out.cell 0 (v := .int .i64 m.1) rfl; have m15 := BM5.out.cell 1 (v := .slice a m.2.length cap) rfl; clear hn hb m0F m1F hT)
   | (go_at_call 26; (with_reducible refine (HCZ.out _ _ _ _ HM5.out HX5.out HQ5.out).mono ?_); rintro e w6 ⟨rfl, hb⟩; have BA6 := hidP (BA5.out.below hb BA5.out.lt); have HQ6 := hidP (HQ5.out.later hb (Nat.le_refl _)); have HY6 := hidP (HY5.out.later hb (Nat.le_refl _)); have HB6 : Hid (Below w.heap.size w _) := HB5.out.trans (hb.mono HB5.out.size); have a06 := BA6.out.cell 0 (v := .int .i64 af) rfl; have a16 := BA6.out.cell 1 (v := .slice aa al.length ac) rfl; clear hb m05 m15))
  go_ret
  exact ⟨rfl, HB6.out⟩
 ·skip
  go_wp2_with (first
   | (go_at_call 19; (with_reducible refine (endP_any _ _ m (sf, sl) _ HMF.out HK.out HsF.out HOS.out).mono ?_); rintro e w5 ⟨vo, rfl, hn, hb⟩; rw [hT] at hn ⊢; simp only at hn ⊢; obtain ⟨ya, yc, rfl⟩ := Row.sl hn; have HY5 := hidP hn; have BM5 := hidP (BMF.out.below hb BMF.out.lt); have BA5 := hidP (BAF.out.below hb BAF.out.lt); have HM5 := hidP (HMF.out.later hb (Nat.le_refl _)); have HX5 := hidP (HXF.out.later hb (Nat.le_refl _)); have HQ5 := hidP (HQF.out.later hb (Nat.le_refl _)); have HB5 : Hid (Below w.heap.size w _) := HBF.out.trans (hb.mono HBF.out.size); have m05 := BM5.out.cell 0 (v := .int .i64 m.1) rfl; have m15 := BM5.out.cell 1 (v := .slice a m.2.length cap) rfl; clear hn hb m0F m1F hT)
   | (go_at_call 26; (with_reducible refine (HCZ.out _ _ _ _ HM5.out HX5.out HQ5.out).mono ?_); rintro e w6 ⟨rfl, hb⟩; have BA6 := hidP (BA5.out.below hb BA5.out.lt); have HQ6 := hidP (HQ5.out.later hb (Nat.le_refl _)); have HY6 := hidP (HY5.out.later hb (Nat.le_refl _)); have HB6 : Hid (Below w.heap.size w _) := HB5.out.trans (hb.mono HB5.out.size); have a06 := BA6.out.cell 0 (v := .int .i64 af) rfl; have a16 := BA6.out.cell 1 (v := .slice aa al.length ac) rfl; clear hb m05 m15))
  go_ret
  exact ⟨rfl, HB6.out⟩
 ·have hkk : k ≤ k := by omega
  have hlen1 : (y.length : Int) ≤ (zz.length : Int) := by omega
  by_cases he : zz.length = y.length
  ·have hlex := hlex he
   have he1 : ((zz.length : Int) == (y.length : Int)) = true := by simp [he]
   have HE := hidP he
   have HLX := hidP hlex
   clear he hlex hlen
   go_wp2_with (first
    | (go_at_call 19; (with_reducible refine (endP_any _ _ m (sf, sl) _ HMF.out HK.out HsF.out HOS.out).mono ?_); rintro e w5 ⟨vo, rfl, hn, hb⟩; rw [hT] at hn ⊢; simp only at hn ⊢; obtain ⟨ya, yc, rfl⟩ := Row.sl hn; have HY5 := hidP hn; have BM5 := hidP (BMF.out.below hb BMF.out.lt); have BA5 := hidP (BAF.out.below hb BAF.out.lt); have HM5 := hidP (HMF.out.later hb (Nat.le_refl _)); have HX5 := hidP (HXF.out.later hb (Nat.le_refl _)); have HQ5 := hidP (HQF.out.later hb (Nat.le_refl _)); have HB5 : Hid (Below w.heap.size w _) := HBF.out.trans (hb.mono HBF.out.size); have m05 := BM5.out.cell 0 (v := .int .i64 m.1) rfl; have m15 := BM5.out.cell 1 (v := .slice a m.2.length cap) rfl; clear hn hb m0F m1F hT)
    | (go_at_call 26; (with_reducible refine (HCZ.out _ _ _ _ HM5.out HX5.out HQ5.out).mono ?_); rintro e w6 ⟨rfl, hb⟩; have BA6 := hidP (BA5.out.below hb BA5.out.lt); have HQ6 := hidP (HQ5.out.later hb (Nat.le_refl _)); have HY6 := hidP (HY5.out.later hb (Nat.le_refl _)); have HB6 : Hid (Below w.heap.size w _) := HB5.out.trans (hb.mono HB5.out.size); have a06 := BA6.out.cell 0 (v := .int .i64 af) rfl; have a16 := BA6.out.cell 1 (v := .slice aa al.length ac) rfl; clear hb m05 m15))
   obtain ⟨_, _, hh1, hcY⟩ := HY6.out.get
   obtain ⟨_, _, hh2, hcQ⟩ := HQ6.out.get
   cases hh1
   cases hh2
   have HCY := hidP hcY
   have HCQ := hidP hcQ
   clear hcY hcQ
   go_loopw [18] (fun i wr => ∃ k q : Nat, k ≤ y.length ∧ lexB (zz.drop k) (y.drop k) = false ∧ i = .int .i64 k ∧ wr = w6.drewN q) (fun i _ => y.length - (intOf i).toNat)
   case atStart => exact ⟨0, 0, Nat.zero_le _, by simpa using HLX.out, rfl, (World.drewN_zero _).symm⟩
   case round =>
    obtain ⟨k, q, hk, hlk, rfl, rfl⟩ := hrel
    by_cases hlt : k < y.length
    ·obtain ⟨b, off, rfl, _, g0⟩ := HCY.out k hlt
     have hkz : k < zz.length := by have := HE.out; omega
     obtain ⟨b2, off2, rfl, _, r0⟩ := HCQ.out k hkz
     have hk0 : (0 : Int) ≤ (k : Int) := by omega
     have hk1 : (k : Int) < (y.length : Int) := by omega
     rw [lexB_drop hkz hlt] at hlk
     clear hkz
     by_cases hyz : el zz k = el y k
     ·rw [if_pos hyz] at hlk
      rw [hyz] at r0
      generalize hgx : el y k = xk at *
      have hxk : (xk == xk) = true := by simp
      clear hgx hyz
      go_wp2
      go_quiet (fail)
      go_wp2
      go_roundw
      case rel => exact ⟨k + 1, q + nq, by omega, hlk, by go_num, by first | rfl | rw [World.drewN_drewN]⟩
      case measure => simp [intOf]; omega
     ·rw [if_neg hyz] at hlk
      have hlk2 : el y k < el zz k := by have := of_decide_eq_false hlk; omega
      have hne : (el y k == el zz k) = false := by simp; omega
      clear hlk hyz
      generalize el y k = xk at *
      generalize el zz k = xz at *
      go_wp2
      go_quiet (fail)
      go_wp2
      go_quiet (fail)
      go_wp2
      go_ret
      exact ⟨rfl, by first | exact below_drewN (below_drewN (below_drewN HB6.out _) _) _ | exact below_drewN (below_drewN HB6.out _) _⟩
    ·have hnl : (y.length : Int) ≤ (k : Int) := by omega
     go_wp2
     go_ret
     exact ⟨rfl, below_drewN HB6.out q⟩
  ·have he1 : ((zz.length : Int) == (y.length : Int)) = false := by simp; omega
   clear hlex he hlen
   go_wp2_with (first
    | (go_at_call 19; (with_reducible refine (endP_any _ _ m (sf, sl) _ HMF.out HK.out HsF.out HOS.out).mono ?_); rintro e w5 ⟨vo, rfl, hn, hb⟩; rw [hT] at hn ⊢; simp only at hn ⊢; obtain ⟨ya, yc, rfl⟩ := Row.sl hn; have HY5 := hidP hn; have BM5 := hidP (BMF.out.below hb BMF.out.lt); have BA5 := hidP (BAF.out.below hb BAF.out.lt); have HM5 := hidP (HMF.out.later hb (Nat.le_refl _)); have HX5 := hidP (HXF.out.later hb (Nat.le_refl _)); have HQ5 := hidP (HQF.out.later hb (Nat.le_refl _)); have HB5 : Hid (Below w.heap.size w _) := HBF.out.trans (hb.mono HBF.out.size); have m05 := BM5.out.cell 0 (v := .int .i64 m.1) rfl; have m15 := BM5.out.cell 1 (v := .slice a m.2.length cap) rfl; clear hn hb m0F m1F hT)
    | (go_at_call 26; (with_reducible refine (HCZ.out _ _ _ _ HM5.out HX5.out HQ5.out).mono ?_); rintro e w6 ⟨rfl, hb⟩; have BA6 := hidP (BA5.out.below hb BA5.out.lt); have HQ6 := hidP (HQ5.out.later hb (Nat.le_refl _)); have HY6 := hidP (HY5.out.later hb (Nat.le_refl _)); have HB6 : Hid (Below w.heap.size w _) := HB5.out.trans (hb.mono HB5.out.size); have a06 := BA6.out.cell 0 (v := .int .i64 af) rfl; have a16 := BA6.out.cell 1 (v := .slice aa al.length ac) rfl; clear hb m05 m15))
   go_loopw [18] (fun i wr => i = .int .i64 0 ∧ wr = w6) (fun _ _ => 0)
   case atStart => exact ⟨rfl, rfl⟩
   case round =>
    obtain ⟨rfl, rfl⟩ := hrel
    by_cases hy0 : 0 < y.length
    ·have hy1 : (0 : Int) < (y.length : Int) := by omega
     go_wp2
     go_ret
     exact ⟨rfl, HB6.out⟩
    ·have hy1 : (y.length : Int) ≤ 0 := by omega
     go_wp2
     go_ret
     exact ⟨rfl, HB6.out⟩
theorem walk (v : Value) (r : Rw) (a1 : Option Addr) (len1 cap1 : Nat) (z1 : List Int) (a2 : Option Addr) (len2 cap2 : Nat) (z2 : List Int) (w : World) (h : RawV w v r ∧ okR r ∧ wfR r) (w1 : IsRow .i64 w a1 len1 cap1 z1 ∧ cap1 * 8 ≤ 140737488351232) (w2 : IsRow .i64 w a2 len2 cap2 z2 ∧ cap2 * 8 ≤ 140737488351232) :
  Calls Try.prog 8 #[v, .slice a1 len1 cap1, .slice a2 len2 cap2] w fun e w' => e = .returned (.bool true) ∧ Below w.heap.size w w' := by
 obtain ⟨p1, _, _⟩ := row_nums w1.1
 obtain ⟨p2, _, _⟩ := row_nums w2.1
 exact core v r _ _ _ _ w h.1 h.2.1 h.2.2 p1 (row_wf w1.1) p2 (row_wf w2.1)
set_option maxRecDepth 100000 in
theorem lifted (os : Os) (started : os.Started) (H : Type) (enc : TypeId × Value → H) :
  ReturnsInHanded {} Try.checked os 8 .any (Rows.streamFirstSpec.pre6 enc Try.prog Try.f8 Rows.streamFirstRow.domain false) (Rows.streamFirstSpec.post enc Try.prog Try.f8 false true false false) := by
 refine returnsInHanded_of_change_sized (C := Try.checked) own started (by kernel_rfl) Try.func8
  (ChangeSpec.witness6 (enc := enc) (C := Try.checked) false ⟨#[], #[.agg #[.int .i64 0, .slice none 0 0], .slice none 0 0, .slice none 0 0], []⟩ 8 (by kernel_rfl) (by kernel_rfl) (by kernel_rfl) (by kernel_rfl)) ?_
 intro W base args ds gs before hval0 hW hcnd hsz0 _
 have hsz : (DataW.weightsEach Try.prog (Try.f8.params.toList ++ Rows.streamFirstSpec.plain.varTypes Try.prog) (ds ++ gs)).all (· ≤ reachBytes) = true := hsz0
 have hval : ∀ (j : Nat) t v, Try.f8.params[j]? = some t → args[j]? = some v → Value.okWide Try.prog W .any base t v := hval0
 clear hval0 hsz0
 have hW' := hW
 obtain ⟨p, q, hA0, hV, rfl, hfz, hnd⟩ := hW
 have hA : DataW.TrodAll enc Try.prog W 0 (fun _ => true) true Try.f8.params.toList args.toList ds p := hA0
 rw [Try.params8] at hA hval hsz
 obtain ⟨v0, vs0, d0, ds0, p0, q0, hargs, rfl, rfl, h0, r0⟩ := trodAll_cons hA
 obtain ⟨v1, vs1, d1, ds1, p1, q1, rfl, rfl, rfl, h1, r1⟩ := trodAll_cons r0
 obtain ⟨v2, vs2, d2, ds2, p2, q2, rfl, rfl, rfl, h2, r2⟩ := trodAll_cons r1
 obtain ⟨rfl, rfl, rfl⟩ := trodAll_nil r2
 obtain rfl : args = #[v0, v1, v2] := by cases args; simp_all
 obtain ⟨rfl, rfl⟩ := trodVars_none hV
 have k0 := h0
 have lt0 : ∀ x ∈ p0, x.block < W.heap.size := by obtain ⟨m, hm⟩ := k0; exact DataW.trod_lt m _ _ _ hm
 obtain ⟨z0, w0⟩ : ∃ m : Rw, RawV W v0 m ∧ okR m ∧ wfR m := by
  obtain ⟨c0, c1, y0, y1, n, rfl, hd, hp, t0, t1⟩ := Go.Joins.open_agg2 Try.underlying46 (by kernel_rfl) (by kernel_rfl) (hval 0 46 v0 rfl rfl) h0
  subst hd
  exact open_raw t0 t1 ((Fits.arg hsz (j := 0) rfl rfl).field Try.underlying46 (f := 1) rfl rfl)
 obtain ⟨a1, len1, cap1, rfl⟩ := okWide_slice Try.underlying35 (hval 1 35 v1 rfl rfl)
 have k1 := h1
 have lt1 : ∀ x ∈ p1, x.block < W.heap.size := by obtain ⟨m, hm⟩ := k1; exact DataW.trod_lt m _ _ _ hm
 obtain ⟨z1, w1⟩ : ∃ zs, IsRow .i64 W a1 len1 cap1 zs ∧ cap1 * 8 ≤ 140737488351232 := by
  obtain ⟨fuel, hf⟩ := h1
  rcases open_ints Try.underlying35 Try.underlying3 (by kernel_rfl) hf with ⟨hcs, _⟩ | ⟨x, l, c, zs, hcs, _, hl, hm, hz, hx, hcell, hwz⟩
  ·simp [Value.cells] at hcs
   obtain ⟨rfl, rfl, rfl⟩ := hcs
   exact ⟨[], .inl ⟨rfl, rfl, rfl, rfl⟩, by omega⟩
  ·have hd := congrArg Prod.fst hx
   have hsw := sized_slice hsz (j := 1) (t := 35) (e := 3) rfl (congrArg some hd) Try.underlying35
   have hby : Try.prog.bytesOf 3 = 8 := by kernel_rfl
   rw [hby] at hsw
   simp [Value.cells] at hcs
   obtain ⟨rfl, rfl, rfl⟩ := hcs
   have hz' : zs.length = cap1 := by simpa using hz
   simp only [lits, List.length_map, List.length_take, List.length_drop, reachBytes] at hsw
   exact ⟨zs, .inr ⟨_, rfl, hl, hm, hz', hcell, hwz⟩, by omega⟩
 obtain ⟨a2, len2, cap2, rfl⟩ := okWide_slice Try.underlying35 (hval 2 35 v2 rfl rfl)
 have k2 := h2
 have lt2 : ∀ x ∈ p2, x.block < W.heap.size := by obtain ⟨m, hm⟩ := k2; exact DataW.trod_lt m _ _ _ hm
 obtain ⟨z2, w2⟩ : ∃ zs, IsRow .i64 W a2 len2 cap2 zs ∧ cap2 * 8 ≤ 140737488351232 := by
  obtain ⟨fuel, hf⟩ := h2
  rcases open_ints Try.underlying35 Try.underlying3 (by kernel_rfl) hf with ⟨hcs, _⟩ | ⟨x, l, c, zs, hcs, _, hl, hm, hz, hx, hcell, hwz⟩
  ·simp [Value.cells] at hcs
   obtain ⟨rfl, rfl, rfl⟩ := hcs
   exact ⟨[], .inl ⟨rfl, rfl, rfl, rfl⟩, by omega⟩
  ·have hd := congrArg Prod.fst hx
   have hsw := sized_slice hsz (j := 2) (t := 35) (e := 3) rfl (congrArg some hd) Try.underlying35
   have hby : Try.prog.bytesOf 3 = 8 := by kernel_rfl
   rw [hby] at hsw
   simp [Value.cells] at hcs
   obtain ⟨rfl, rfl, rfl⟩ := hcs
   have hz' : zs.length = cap2 := by simpa using hz
   simp only [lits, List.length_map, List.length_take, List.length_drop, reachBytes] at hsw
   exact ⟨zs, .inr ⟨_, rfl, hl, hm, hz', hcell, hwz⟩, by omega⟩
 refine (walk v0 z0 a1 len1 cap1 z1 a2 len2 cap2 z2 W w0 w1 w2).mono fun e W' ⟨he, bel⟩ => ?_
 subst he
 exact ⟨_, rfl, _, _, _, [], _, [], hW', trodAll_mk1 (shut_bool Try.underlying4 _), (trodAll_cons_mk (Below.trod laidOut (by kernel_rfl) (of_decide_eq_true (by kernel_rfl)) k0 bel lt0) (trodAll_cons_mk (Below.trod laidOut (by kernel_rfl) (of_decide_eq_true (by kernel_rfl)) k1 bel lt1) (trodAll_cons_mk (Below.trod laidOut (by kernel_rfl) (of_decide_eq_true (by kernel_rfl)) k2 bel lt2) trodAll_mk0))), rfl, bel.frame _, fun h => by cases h⟩
end Go.Proofs.Ytkeeiihaijhdoaa.streamFirst
namespace Go.Proofs.Ytkeeiihaijhdoaa
theorem streamFirst_holds : Rows.StreamFirstSaid :=
 OpenClaim.holds_of_wide 8 Try.f8 rfl rfl rfl rfl rfl rfl rfl ⟨rfl, rfl, rfl, rfl, rfl⟩ rfl rfl rfl rfl rfl (by kernel_rfl) Try.func8 (by kernel_rfl)
  (of_decide_eq_true (by kernel_rfl)) (by unfold Func.isWrapper; first | (rw [if_pos (by decide +kernel)]; kernel_rfl) | (rw [if_neg (by decide +kernel)]; exact ⟨rfl, rfl⟩))
  (fun os started H enc _ => streamFirst.lifted os started H enc)
#print axioms streamFirst_holds
end Go.Proofs.Ytkeeiihaijhdoaa
