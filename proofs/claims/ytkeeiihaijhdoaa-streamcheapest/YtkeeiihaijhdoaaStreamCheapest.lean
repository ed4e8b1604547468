/- The statement StreamCheapest: what comes out of a machine that was fed is the cheapest that it can write for what it read, for every input and without any condition. -/
import Derived.Test.YtkeeiihaijhdoaaCam
import Derived.Test.YtkeeiihaijhdoaaCan
import Derived.Test.YtkeeiihaijhdoaaCak
import Derived.Test.YtkeeiihaijhdoaaCao
import Derived.Test.YtkeeiihaijhdoaaCap
import Derived.Test.YtkeeiihaijhdoaaCat
import Derived.Test.YtkeeiihaijhdoaaCau
import Derived.Test.YtkeeiihaijhdoaaCal
import Derived.Test.YtkeeiihaijhdoaaCac
import Derived.Test.YtkeeiihaijhdoaaCab
import Derived.Lib.SmallJoins
import Derived.ChangeOld
import Derived.Below
namespace Go.Proofs.Ytkeeiihaijhdoaa.streamCheapest
open Go.ChangeShapes Go.WideShapes Go.ChangeAt Go.RowKit
open Go.Proofs.Ytkeeiihaijhdoaa.Pl Go.Proofs.Ytkeeiihaijhdoaa.Wt Go.Proofs.Ytkeeiihaijhdoaa.Sm
set_option linter.unusedVariables false
set_option linter.unusedSimpArgs false
theorem own : ownKnob Try.prog.godebug = none := by kernel_rfl
theorem laidOut : laidOutB Try.prog = true := by kernel_rfl
theorem made_cut (r : Rw) : CutM (madeM r 6 false) := by
 have hf := madeM_right r 6 (by omega) (by omega) false
 refine ⟨hf, ?_, (pkR_bd r.1 (sizeM r 6) (by unfold sizeM; omega)).1, fun q a ha => ?_⟩
 ·rw [show (madeM r 6 false).2.length = sizeM r 6 from statesM_length _ _ _]; unfold sizeM; omega
 ·unfold arcS at ha
  by_cases hq : q.toNat < (madeM r 6 false).2.length
  ·exact (made_nine r 6 false _ (el_mem hq)).2 a ha
  ·have : el (madeM r 6 false).2 q.toNat = default := by
    simp [el, List.getD_eq_getElem?_getD, List.getElem?_eq_none (show (madeM r 6 false).2.length ≤ q.toNat by omega)]
   rw [this] at ha
   cases ha
theorem word_labN (z : List Int) (k : Nat) : labB (wdL z k) = true := by
 unfold labB
 exact List.all_eq_true.2 fun n hn => by rcases wdL_mem hn with rfl | rfl <;> decide
theorem lab_wrd {y : List Int} (h : labB y = true) (hy : y.length ≤ 12) : wrdE y = 0 := by
 unfold wrdE
 rw [if_neg (by omega)]
 exact if_pos h
set_option maxRecDepth 100000 in
set_option maxHeartbeats 4000000 in
theorem core (v : Value) (r : Rw) (vz : Value) (z : List Int) (w : World) (h : RawV w v r) (hok : okR r) (hwf : wfR r) (hz : Nums w vz z) (hzw : ∀ n ∈ z, (Lit.int .i64 n).wf = true) :
  Calls Try.prog 7 #[v, vz] w fun e w' => e = .returned (.bool true) ∧ Below w.heap.size w w' := by
 have HMD : Hid (∀ W v, RawV W v r → Calls Try.prog 21 #[v, .int .i64 6, .bool false] W fun e w' => ∃ v', e = .returned v' ∧ Mach w' v' (madeM r 6 false) ∧ Below W.heap.size W w') := fun W v h1 => made_any v r 6 false W h1 hok hwf (by omega) (by omega)
 have HWD : Hid (∀ v W, Nums W v z → Calls Try.prog 22 #[v, .int .i64 6] W fun e w' => ∃ v', e = .returned v' ∧ Nums w' v' (wdL z 6) ∧ Below W.heap.size W w') := fun v W h1 => word_any v z 6 W h1 hzw (by omega)
 have HCM := hidP (made_cut r)
 have HCH := hidP (made_cheap r 6 false)
 have HLB := hidP (word_labN z 6)
 have HWX : Hid (wrdE (wdL z 6) = 0) := wdL_wrd (by omega)
 have hx12 : (wdL z 6).length ≤ 12 := by have := wdL_len z 6; omega
 have HI := hidP h
 have HZ := hidP hz
 clear hok hwf hzw h
 generalize madeM r 6 false = m at *
 generalize wdL z 6 = x at *
 have HK : Hid (okM m) := right_okM HCM.out.ok
 have HL : Hid (x.length ≤ 17592186044000) := by show _ ≤ _; omega
 obtain ⟨az, cz, rfl⟩ := Row.sl hz
 obtain ⟨n, hn⟩ : ∃ n, CstIs (CostsR m x) n := cst_exists (costsR_bound HCM.out.ok HCH.out hx12)
 have HNN := hidP hn
 have HRC : Hid (∀ W v u, Mach W v m → Nums W u x → Calls Try.prog 25 #[v, u] W fun e w' => e = .returned (.tuple #[.int .i64 n, .int .i64 0]) ∧ Below W.heap.size W w') := fun W v u h1 h2 => (readsWP_any v u _ _ W h1 HK.out h2).mono fun e w' ⟨n', ec, he, ha, hb⟩ => by
  have hE : wghE1 m x = 0 := by unfold wghE1; rw [if_neg (by simp [HCM.out.ok])]; exact HWX.out
  unfold WgR at ha
  rw [if_pos hE] at ha
  obtain ⟨h1, h2⟩ := cst_of ha (costsR_bound HCM.out.ok HCH.out hx12)
  subst h1
  have := h2.eq HNN.out (fun c => Iff.rfl)
  subst this
  exact ⟨he, hb⟩
 clear hn
 obtain ⟨vr0, rfl, hN⟩ := HI.out
 obtain ⟨ar, cr, rfl, hN2⟩ := hN.get
 clear hN hN2
 clear hz
 have HU : Hid (Below w.heap.size w (w.alloc (.cells #[.int .i64 r.1, .slice ar r.2.length cr] 46))) := by show Below _ _ _; go_grown
 go_enter Try.func7, Try.ntmps7
 go_wp2_with (first
  | (go_at_call 21; (with_reducible refine (HMD.out _ _ (HI.out.later HU.out (Nat.le_refl _))).mono ?_); rintro e w1 ⟨v1, rfl, hm, hb⟩; have HMa := hidP hm; obtain ⟨vs1, rfl, hS1⟩ := hm; obtain ⟨a, cap, rfl⟩ := hS1.sl; clear hS1; have HU1 : Hid (Below w1.heap.size w1 (w1.alloc (.cells #[.int .i64 m.1, .slice a m.2.length cap] 24))) := (Below.refl _ _).alloc (Nat.le_refl _) _; have HB1 : Hid (Below w.heap.size w (w1.alloc (.cells #[.int .i64 m.1, .slice a m.2.length cap] 24))) := (HU.out.trans (hb.mono HU.out.size)).trans (HU1.out.mono (HU.out.trans (hb.mono HU.out.size)).size); have BM1 : Hid (Blk (w1.alloc (.cells #[.int .i64 m.1, .slice a m.2.length cap] 24)) w1.heap.size #[.int .i64 m.1, .slice a m.2.length cap] 24) := Blk.made w1 _ _; have HM1 : Hid (Mach (w1.alloc (.cells #[.int .i64 m.1, .slice a m.2.length cap] 24)) (.agg #[.int .i64 m.1, .slice a m.2.length cap]) m) := HMa.out.later HU1.out (Nat.le_refl _); clear hb HMa)
  | (go_at_call 22; (with_reducible refine (HWD.out _ _ (HZ.out.later HB1.out (Nat.le_refl _))).mono ?_); rintro e w2 ⟨v2, rfl, hn, hb⟩; obtain ⟨a82, c82, rfl⟩ := Row.sl hn; have HX2 := hidP hn; have BM2 := hidP (BM1.out.below hb BM1.out.lt); have HM2 := hidP (HM1.out.later hb (Nat.le_refl _)); have HB2 : Hid (Below w.heap.size w w2) := HB1.out.trans (hb.mono HB1.out.size); have m02 := BM2.out.cell 0 (v := .int .i64 m.1) rfl; have m12 := BM2.out.cell 1 (v := .slice a m.2.length cap) rfl; clear hn hb BM1 HM1)
  | (go_at_call 10; (with_reducible refine (beginP_any _ m _ HM2.out HK.out).mono ?_); rintro e w3 ⟨⟨af, al⟩, e3, hans, v3, rfl, hr3, hb⟩; have HAN := hidP hans; have HOA := hidP (cut_begok HCM.out hans); obtain ⟨vs3, rfl, hm3⟩ := hr3; simp only at hm3; obtain ⟨aa, ac, rfl⟩ := hm3.sl; have HU3 : Hid (Below w3.heap.size w3 (w3.alloc (.cells #[.int .i64 af, .slice aa al.length ac] 28))) := (Below.refl _ _).alloc (Nat.le_refl _) _; have HBx : Hid (Below w2.heap.size w2 (w3.alloc (.cells #[.int .i64 af, .slice aa al.length ac] 28))) := hb.trans (HU3.out.mono hb.size); have BMB := hidP (BM2.out.below HBx.out BM2.out.lt); have HMB := hidP (HM2.out.later HBx.out (Nat.le_refl _)); have HBB : Hid (Below w.heap.size w _) := HB2.out.trans (HBx.out.mono HB2.out.size); have BAB : Hid (Blk (w3.alloc (.cells #[.int .i64 af, .slice aa al.length ac] 28)) w3.heap.size #[.int .i64 af, .slice aa al.length ac] 28) := Blk.made w3 _ _; have HaB : Hid (RunV (w3.alloc (.cells #[.int .i64 af, .slice aa al.length ac] 28)) (.agg #[.int .i64 af, .slice aa al.length ac]) (af, al)) := RunV.later ⟨_, rfl, hm3⟩ HU3.out (Nat.le_refl _); have HXB := hidP (HX2.out.later HBx.out (Nat.le_refl _)); clear HX2; have m0B := BMB.out.cell 0 (v := .int .i64 m.1) rfl; have m1B := BMB.out.cell 1 (v := .slice a m.2.length cap) rfl; clear hans hm3 hb m02 m12 HM2 BM2 HBx)
  | (go_at_call 16; (with_reducible refine (feedP_any _ _ _ m (af, al) x _ HMB.out HK.out HaB.out HOA.out HXB.out HL.out).mono ?_); rintro e w4 ⟨⟨sf, sl⟩, f4, hans, v4, rfl, hr4, hb⟩; have HOS := hidP (fed_ok hans); obtain ⟨he0, hf0, hal, hEI⟩ := endIs_of HCM.out HCH.out HLB.out hx12 HAN.out hans; subst he0 hf0; have HEI := hidP hEI; obtain ⟨vs4, rfl, hm4⟩ := hr4; simp only at hm4 hal; obtain ⟨sa, sc, rfl⟩ := hm4.sl; have HU4 : Hid (Below w4.heap.size w4 (w4.alloc (.cells #[.int .i64 sf, .slice sa sl.length sc] 28))) := (Below.refl _ _).alloc (Nat.le_refl _) _; have HBx : Hid (Below (w3.alloc (.cells #[.int .i64 af, .slice aa al.length ac] 28)).heap.size (w3.alloc (.cells #[.int .i64 af, .slice aa al.length ac] 28)) (w4.alloc (.cells #[.int .i64 sf, .slice sa sl.length sc] 28))) := hb.trans (HU4.out.mono hb.size); have BMF := hidP (BMB.out.below HBx.out BMB.out.lt); have BAF := hidP (BAB.out.below HBx.out BAB.out.lt); have HMF := hidP (HMB.out.later HBx.out (Nat.le_refl _)); have HBF : Hid (Below w.heap.size w _) := HBB.out.trans (HBx.out.mono HBB.out.size); have BSF : Hid (Blk (w4.alloc (.cells #[.int .i64 sf, .slice sa sl.length sc] 28)) w4.heap.size #[.int .i64 sf, .slice sa sl.length sc] 28) := Blk.made w4 _ _; have HsF : Hid (RunV (w4.alloc (.cells #[.int .i64 sf, .slice sa sl.length sc] 28)) (.agg #[.int .i64 sf, .slice sa sl.length sc]) (sf, sl)) := RunV.later ⟨_, rfl, hm4⟩ HU4.out (Nat.le_refl _); have HXF := hidP (HXB.out.later HBx.out (Nat.le_refl _)); clear HXB; have m0F := BMF.out.cell 0 (v := .int .i64 m.1) rfl; have m1F := BMF.out.cell 1 (v := .slice a m.2.length cap) rfl; clear hans hm4 hb hEI m0B m1B HMB BMB BAB HaB HBx))
 have hal0 : ((al.length : Int) == 0) = false := by simp only [beq_eq_false_iff_ne, ne_eq]; omega
 rcases endIs_least HEI.out HNN.out with ⟨rfl, hT⟩ | ⟨y, hT, hni, hly, hy8, hby⟩
 ·have hyz : ((([] : List Int).length : Int) == 0) = true := by simp
  go_wp2_with (first
   | (go_at_call 19; (with_reducible refine (endP_any _ _ m (sf, sl) _ HMF.out HK.out HsF.out HOS.out).mono ?_); rintro e w5 ⟨vo, rfl, hn, hb⟩; rw [hT] at hn ⊢; simp only at hn ⊢; obtain ⟨ya, yc, rfl⟩ := Row.sl hn; have HY5 := hidP hn; have BM5 := hidP (BMF.out.below hb BMF.out.lt); have BA5 := hidP (BAF.out.below hb BAF.out.lt); have HM5 := hidP (HMF.out.later hb (Nat.le_refl _)); have HX5 := hidP (HXF.out.later hb (Nat.le_refl _)); have HB5 : Hid (Below w.heap.size w _) := HBF.out.trans (hb.mono HBF.out.size); have m05 := BM5.out.cell 0 (v := .int .i64 m.1) rfl; have m15 := BM5.out.cell 1 (v := .slice a m.2.length cap) rfl; clear hn hb m0F m1F hT)
   | (go_at_call 25; (with_reducible refine (HRC.out _ _ _ HM5.out HX5.out).mono ?_); rintro e w6 ⟨rfl, hb⟩; have BM6 := hidP (BM5.out.below hb BM5.out.lt); have BA6 := hidP (BA5.out.below hb BA5.out.lt); have HM6 := hidP (HM5.out.later hb (Nat.le_refl _)); have HX6 := hidP (HX5.out.later hb (Nat.le_refl _)); have HY6 := hidP (HY5.out.later hb (Nat.le_refl _)); have HB6 : Hid (Below w.heap.size w _) := HB5.out.trans (hb.mono HB5.out.size); have m06 := BM6.out.cell 0 (v := .int .i64 m.1) rfl; have m16 := BM6.out.cell 1 (v := .slice a m.2.length cap) rfl; have a06 := BA6.out.cell 0 (v := .int .i64 af) rfl; have a16 := BA6.out.cell 1 (v := .slice aa al.length ac) rfl; clear hb m05 m15))
  go_ret
  exact ⟨rfl, HB6.out⟩
 ·have hn1 : (n == 1000000001) = false := by simp [hni]
  have hn2 : (n == n) = true := by simp
  have HLY := hidP hly
  have HBY := hidP hby
  clear hly hby hni
  by_cases hyl : y.length ≤ 12
  ·have hy1 : ((y.length : Int) ≤ 12) := by omega
   go_wp2_with (first
    | (go_at_call 19; (with_reducible refine (endP_any _ _ m (sf, sl) _ HMF.out HK.out HsF.out HOS.out).mono ?_); rintro e w5 ⟨vo, rfl, hn, hb⟩; rw [hT] at hn ⊢; simp only at hn ⊢; obtain ⟨ya, yc, rfl⟩ := Row.sl hn; have HY5 := hidP hn; have BM5 := hidP (BMF.out.below hb BMF.out.lt); have BA5 := hidP (BAF.out.below hb BAF.out.lt); have HM5 := hidP (HMF.out.later hb (Nat.le_refl _)); have HX5 := hidP (HXF.out.later hb (Nat.le_refl _)); have HB5 : Hid (Below w.heap.size w _) := HBF.out.trans (hb.mono HBF.out.size); have m05 := BM5.out.cell 0 (v := .int .i64 m.1) rfl; have m15 := BM5.out.cell 1 (v := .slice a m.2.length cap) rfl; clear hn hb m0F m1F hT)
    | (go_at_call 25; (with_reducible refine (HRC.out _ _ _ HM5.out HX5.out).mono ?_); rintro e w6 ⟨rfl, hb⟩; have BM6 := hidP (BM5.out.below hb BM5.out.lt); have BA6 := hidP (BA5.out.below hb BA5.out.lt); have HM6 := hidP (HM5.out.later hb (Nat.le_refl _)); have HX6 := hidP (HX5.out.later hb (Nat.le_refl _)); have HY6 := hidP (HY5.out.later hb (Nat.le_refl _)); have HB6 : Hid (Below w.heap.size w _) := HB5.out.trans (hb.mono HB5.out.size); have m06 := BM6.out.cell 0 (v := .int .i64 m.1) rfl; have m16 := BM6.out.cell 1 (v := .slice a m.2.length cap) rfl; have a06 := BA6.out.cell 0 (v := .int .i64 af) rfl; have a16 := BA6.out.cell 1 (v := .slice aa al.length ac) rfl; clear hb m05 m15)
    | (go_at_call 26; (with_reducible refine (cost_any _ _ _ m x y _ HM6.out HK.out HCM.out.ok HCH.out HX6.out HY6.out HWX.out (lab_wrd HLY.out hyl)).mono ?_); rintro e w7 ⟨kk, rfl, hq, hb⟩; have hkk := HBY.out kk hq; subst hkk; have HB7 : Hid (Below w.heap.size w _) := HB6.out.trans (hb.mono HB6.out.size); clear hb hq))
   go_ret
   exact ⟨rfl, HB7.out⟩
  ·have hy1 : (12 < (y.length : Int)) := by omega
   go_wp2_with (first
    | (go_at_call 19; (with_reducible refine (endP_any _ _ m (sf, sl) _ HMF.out HK.out HsF.out HOS.out).mono ?_); rintro e w5 ⟨vo, rfl, hn, hb⟩; rw [hT] at hn ⊢; simp only at hn ⊢; obtain ⟨ya, yc, rfl⟩ := Row.sl hn; have HY5 := hidP hn; have BM5 := hidP (BMF.out.below hb BMF.out.lt); have BA5 := hidP (BAF.out.below hb BAF.out.lt); have HM5 := hidP (HMF.out.later hb (Nat.le_refl _)); have HX5 := hidP (HXF.out.later hb (Nat.le_refl _)); have HB5 : Hid (Below w.heap.size w _) := HBF.out.trans (hb.mono HBF.out.size); have m05 := BM5.out.cell 0 (v := .int .i64 m.1) rfl; have m15 := BM5.out.cell 1 (v := .slice a m.2.length cap) rfl; clear hn hb m0F m1F hT)
    | (go_at_call 25; (with_reducible refine (HRC.out _ _ _ HM5.out HX5.out).mono ?_); rintro e w6 ⟨rfl, hb⟩; have BM6 := hidP (BM5.out.below hb BM5.out.lt); have BA6 := hidP (BA5.out.below hb BA5.out.lt); have HM6 := hidP (HM5.out.later hb (Nat.le_refl _)); have HX6 := hidP (HX5.out.later hb (Nat.le_refl _)); have HY6 := hidP (HY5.out.later hb (Nat.le_refl _)); have HB6 : Hid (Below w.heap.size w _) := HB5.out.trans (hb.mono HB5.out.size); have m06 := BM6.out.cell 0 (v := .int .i64 m.1) rfl; have m16 := BM6.out.cell 1 (v := .slice a m.2.length cap) rfl; have a06 := BA6.out.cell 0 (v := .int .i64 af) rfl; have a16 := BA6.out.cell 1 (v := .slice aa al.length ac) rfl; clear hb m05 m15))
   go_ret
   exact ⟨rfl, HB6.out⟩
theorem walk (v : Value) (r : Rw) (a1 : Option Addr) (len1 cap1 : Nat) (z1 : List Int) (w : World) (h : RawV w v r ∧ okR r ∧ wfR r) (w1 : IsRow .i64 w a1 len1 cap1 z1 ∧ cap1 * 8 ≤ 140737488351232) :
  Calls Try.prog 7 #[v, .slice a1 len1 cap1] w fun e w' => e = .returned (.bool true) ∧ Below w.heap.size w w' := by
 obtain ⟨p1, _, _⟩ := row_nums w1.1
 exact core v r _ _ w h.1 h.2.1 h.2.2 p1 (row_wf w1.1)
set_option maxRecDepth 100000 in
theorem lifted (os : Os) (started : os.Started) (H : Type) (enc : TypeId × Value → H) :
  ReturnsInHanded {} Try.checked os 7 .any (Rows.streamCheapestSpec.pre6 enc Try.prog Try.f7 Rows.streamCheapestRow.domain false) (Rows.streamCheapestSpec.post enc Try.prog Try.f7 false true false false) := by
 refine returnsInHanded_of_change_sized (C := Try.checked) own started (by kernel_rfl) Try.func7
  (ChangeSpec.witness6 (enc := enc) (C := Try.checked) false ⟨#[], #[.agg #[.int .i64 0, .slice none 0 0], .slice none 0 0], []⟩ 8 (by kernel_rfl) (by kernel_rfl) (by kernel_rfl) (by kernel_rfl)) ?_
 intro W base args ds gs before hval0 hW hcnd hsz0 _
 have hsz : (DataW.weightsEach Try.prog (Try.f7.params.toList ++ Rows.streamCheapestSpec.plain.varTypes Try.prog) (ds ++ gs)).all (· ≤ reachBytes) = true := hsz0
 have hval : ∀ (j : Nat) t v, Try.f7.params[j]? = some t → args[j]? = some v → Value.okWide Try.prog W .any base t v := hval0
 clear hval0 hsz0
 have hW' := hW
 obtain ⟨p, q, hA0, hV, rfl, hfz, hnd⟩ := hW
 have hA : DataW.TrodAll enc Try.prog W 0 (fun _ => true) true Try.f7.params.toList args.toList ds p := hA0
 rw [Try.params7] at hA hval hsz
 obtain ⟨v0, vs0, d0, ds0, p0, q0, hargs, rfl, rfl, h0, r0⟩ := trodAll_cons hA
 obtain ⟨v1, vs1, d1, ds1, p1, q1, rfl, rfl, rfl, h1, r1⟩ := trodAll_cons r0
 obtain ⟨rfl, rfl, rfl⟩ := trodAll_nil r1
 obtain rfl : args = #[v0, v1] := by cases args; simp_all
 obtain ⟨rfl, rfl⟩ := trodVars_none hV
 have k0 := h0
 have lt0 : ∀ x ∈ p0, x.block < W.heap.size := by obtain ⟨m, hm⟩ := k0; exact DataW.trod_lt m _ _ _ hm
 obtain ⟨z0, w0⟩ : ∃ m : Rw, RawV W v0 m ∧ okR m ∧ wfR m := by
  obtain ⟨c0, c1, y0, y1, n, rfl, hd, hp, t0, t1⟩ := Go.Joins.open_agg2 Try.underlying46 (by kernel_rfl) (by kernel_rfl) (hval 0 46 v0 rfl rfl) h0
  subst hd
  exact open_raw t0 t1 ((Fits.arg hsz (j := 0) rfl rfl).field Try.underlying46 (f := 1) rfl rfl)
 obtain ⟨a1, len1, cap1, rfl⟩ := okWide_slice Try.underlying35 (hval 1 35 v1 rfl rfl)
 have k1 := h1
 have lt1 : ∀ x ∈ p1, x.block < W.heap.size := by obtain ⟨m, hm⟩ := k1; exact DataW.trod_lt m _ _ _ hm
 obtain ⟨z1, w1⟩ : ∃ zs, IsRow .i64 W a1 len1 cap1 zs ∧ cap1 * 8 ≤ 140737488351232 := by
  obtain ⟨fuel, hf⟩ := h1
  rcases open_ints Try.underlying35 Try.underlying3 (by kernel_rfl) hf with ⟨hcs, _⟩ | ⟨x, l, c, zs, hcs, _, hl, hm, hz, hx, hcell, hwz⟩
  ·simp [Value.cells] at hcs
   obtain ⟨rfl, rfl, rfl⟩ := hcs
   exact ⟨[], .inl ⟨rfl, rfl, rfl, rfl⟩, by omega⟩
  ·have hd := congrArg Prod.fst hx
   have hsw := sized_slice hsz (j := 1) (t := 35) (e := 3) rfl (congrArg some hd) Try.underlying35
   have hby : Try.prog.bytesOf 3 = 8 := by kernel_rfl
   rw [hby] at hsw
   simp [Value.cells] at hcs
   obtain ⟨rfl, rfl, rfl⟩ := hcs
   have hz' : zs.length = cap1 := by simpa using hz
   simp only [lits, List.length_map, List.length_take, List.length_drop, reachBytes] at hsw
   exact ⟨zs, .inr ⟨_, rfl, hl, hm, hz', hcell, hwz⟩, by omega⟩
 refine (walk v0 z0 a1 len1 cap1 z1 W w0 w1).mono fun e W' ⟨he, bel⟩ => ?_
 subst he
 exact ⟨_, rfl, _, _, _, [], _, [], hW', trodAll_mk1 (shut_bool Try.underlying4 _), (trodAll_cons_mk (Below.trod laidOut (by kernel_rfl) (of_decide_eq_true (by kernel_rfl)) k0 bel lt0) (trodAll_cons_mk (Below.trod laidOut (by kernel_rfl) (of_decide_eq_true (by kernel_rfl)) k1 bel lt1) trodAll_mk0)), rfl, bel.frame _, fun h => by cases h⟩
end Go.Proofs.Ytkeeiihaijhdoaa.streamCheapest
namespace Go.Proofs.Ytkeeiihaijhdoaa
theorem streamCheapest_holds : Rows.StreamCheapestSaid :=
 OpenClaim.holds_of_wide 7 Try.f7 rfl rfl rfl rfl rfl rfl rfl ⟨rfl, rfl, rfl, rfl, rfl⟩ rfl rfl rfl rfl rfl (by kernel_rfl) Try.func7 (by kernel_rfl)
  (of_decide_eq_true (by kernel_rfl)) (by unfold Func.isWrapper; first | (rw [if_pos (by decide +kernel)]; kernel_rfl) | (rw [if_neg (by decide +kernel)]; exact ⟨rfl, rfl⟩))
  (fun os started H enc _ => streamCheapest.lifted os started H enc)
#print axioms streamCheapest_holds
end Go.Proofs.Ytkeeiihaijhdoaa
