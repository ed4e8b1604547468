/- The statement StreamCuts: it does not matter in which pieces labels are fed; for every input and without any condition. -/
import Derived.Test.YtkeeiihaijhdoaaDaj
import Derived.Test.YtkeeiihaijhdoaaDak
import Derived.Test.YtkeeiihaijhdoaaDal
import Derived.Test.YtkeeiihaijhdoaaDam
import Derived.Test.YtkeeiihaijhdoaaDab
import Derived.Test.YtkeeiihaijhdoaaDaa
import Derived.Lib.SmallJoins
import Derived.ChangeOld
import Derived.Below
namespace Go.Proofs.Ytkeeiihaijhdoaa.streamCuts
open Go.ChangeShapes Go.WideShapes Go.ChangeAt Go.RowKit
open Go.Proofs.Ytkeeiihaijhdoaa.Pl Go.Proofs.Ytkeeiihaijhdoaa.Wt Go.Proofs.Ytkeeiihaijhdoaa.Sm
set_option linter.unusedVariables false
set_option linter.unusedSimpArgs false
theorem own : ownKnob Try.prog.godebug = none := by kernel_rfl
theorem laidOut : laidOutB Try.prog = true := by kernel_rfl
def HeldMRX (b d : Nat) (x0 x1 y0 y1 : Value) (w : World) : Prop := w.cell? ⟨b, 0, none⟩ = some x0 ∧ w.cell? ⟨b, 1, none⟩ = some x1 ∧ w.cell? ⟨d, 0, none⟩ = some y0 ∧ w.cell? ⟨d, 1, none⟩ = some y1
theorem made_cut (r : Rw) : CutM (madeM r 6 false) := by
 have hf := madeM_right r 6 (by omega) (by omega) false
 refine ⟨hf, ?_, (pkR_bd r.1 (sizeM r 6) (by unfold sizeM; omega)).1, fun q a ha => ?_⟩
 ·rw [show (madeM r 6 false).2.length = sizeM r 6 from statesM_length _ _ _]; unfold sizeM; omega
 ·unfold arcS at ha
  by_cases hq : q.toNat < (madeM r 6 false).2.length
  ·exact (made_nine r 6 false _ (el_mem hq)).2 a ha
  ·have : el (madeM r 6 false).2 q.toNat = default := by
    simp [el, List.getD_eq_getElem?_getD, List.getElem?_eq_none (show (madeM r 6 false).2.length ≤ q.toNat by omega)]
   rw [this] at ha
   cases ha
theorem word_lab (z : List Int) (k : Nat) : labB (wdL z k) = true := by
 unfold labB
 exact List.all_eq_true.2 fun n hn => by rcases wdL_mem hn with rfl | rfl <;> decide
set_option maxRecDepth 100000 in
set_option maxHeartbeats 4000000 in
theorem core (v : Value) (r : Rw) (vz : Value) (z : List Int) (q : Int) (w : World) (h : RawV w v r) (hok : okR r) (hwf : wfR r) (hz : Nums w vz z) (hzw : ∀ n ∈ z, (Lit.int .i64 n).wf = true) (hq : (Lit.int .i64 q).wf = true) :
  Calls Try.prog 6 #[v, vz, .int .i64 q] w fun e w' => e = .returned (.bool true) ∧ Below w.heap.size w w' := by
 have HMD : Hid (∀ W v, RawV W v r → Calls Try.prog 21 #[v, .int .i64 6, .bool false] W fun e w' => ∃ v', e = .returned v' ∧ Mach w' v' (madeM r 6 false) ∧ Below W.heap.size W w') := fun W v h1 => made_any v r 6 false W h1 hok hwf (by omega) (by omega)
 have HWD : Hid (∀ v W, Nums W v z → Calls Try.prog 22 #[v, .int .i64 12] W fun e w' => ∃ v', e = .returned v' ∧ (Nums w' v' (wdL z 12) ∧ ∃ n, w'.ownsRow W.heap.size 3 1 v' n ((wdL z 12).flatMap encI1)) ∧ Below W.heap.size W w') := fun v W h1 => word_own v z 12 W h1 hzw (by omega)
 have HCM := hidP (made_cut r)
 have HLB := hidP (word_lab z 12)
 have hx12 := wdL_len z 12
 have HI := hidP h
 have HZ := hidP hz
 clear hok hwf hzw h
 generalize madeM r 6 false = m at *
 generalize wdL z 12 = x at *
 obtain ⟨k, hk⟩ : ∃ k : Nat, pkR q ((x.length : Int) + 1) = (k : Int) := ⟨(pkR q ((x.length : Int) + 1)).toNat, by have := pkR_bd q (x.length + 1) (by omega); push_cast at this; omega⟩
 have hkx : k ≤ x.length := by have := pkR_bd q (x.length + 1) (by omega); push_cast at this; omega
 have HPK : Hid (∀ W, Calls Try.prog 23 #[.int .i64 q, .int .i64 ((x.length : Int) + 1)] W fun e w' => e = .returned (.int .i64 k) ∧ W = w') := fun W => (picked_R q _ W hq (by omega) (by omega) _ hk).mono fun e w' ⟨h1, h2⟩ => ⟨h1, h2⟩
 have HK : Hid (okM m) := right_okM HCM.out.ok
 have HL : Hid (x.length ≤ 17592186044000) := by show _ ≤ _; omega
 have HLT : Hid ((x.take k).length ≤ 17592186044000) := by show _ ≤ _; rw [List.length_take]; omega
 have HLD : Hid ((x.drop k).length ≤ 17592186044000) := by show _ ≤ _; rw [List.length_drop]; omega
 obtain ⟨az, cz, rfl⟩ := Row.sl hz
 obtain ⟨vr0, rfl, hN⟩ := HI.out
 obtain ⟨ar, cr, rfl, hN2⟩ := hN.get
 clear hN hN2
 clear hz hk hq
 have HU : Hid (Below w.heap.size w (w.alloc (.cells #[.int .i64 r.1, .slice ar r.2.length cr] 46))) := by show Below _ _ _; go_grown
 go_enter Try.func6, Try.ntmps6
 go_wp2_with (first
  | (go_at_call 21; (with_reducible refine (HMD.out _ _ (HI.out.later HU.out (Nat.le_refl _))).mono ?_); rintro e w1 ⟨v1, rfl, hm, hb⟩; have HMa := hidP hm; obtain ⟨vs1, rfl, hS1⟩ := hm; obtain ⟨a, cap, rfl⟩ := hS1.sl; clear hS1; have HU1 : Hid (Below w1.heap.size w1 (w1.alloc (.cells #[.int .i64 m.1, .slice a m.2.length cap] 24))) := (Below.refl _ _).alloc (Nat.le_refl _) _; have HB1 : Hid (Below w.heap.size w (w1.alloc (.cells #[.int .i64 m.1, .slice a m.2.length cap] 24))) := (HU.out.trans (hb.mono HU.out.size)).trans (HU1.out.mono (HU.out.trans (hb.mono HU.out.size)).size); have BM1 : Hid (Blk (w1.alloc (.cells #[.int .i64 m.1, .slice a m.2.length cap] 24)) w1.heap.size #[.int .i64 m.1, .slice a m.2.length cap] 24) := Blk.made w1 _ _; have HM1 : Hid (Mach (w1.alloc (.cells #[.int .i64 m.1, .slice a m.2.length cap] 24)) (.agg #[.int .i64 m.1, .slice a m.2.length cap]) m) := HMa.out.later HU1.out (Nat.le_refl _); clear hb HMa)
  | (go_at_call 22; (with_reducible refine (HWD.out _ _ (HZ.out.later HB1.out (Nat.le_refl _))).mono ?_); rintro e w2 ⟨v2, rfl, ⟨hn2, n2, ho2⟩, hb⟩; obtain ⟨a8, c8, rfl⟩ := Row.sl hn2; have HX2 := hidP hn2; have hc8 : x.length ≤ c8 := own_cap ho2; have BM2 := hidP (BM1.out.below hb BM1.out.lt); have HM2 := hidP (HM1.out.later hb (Nat.le_refl _)); have HW2 : Hid (Below w.heap.size w w2) := HB1.out.trans (hb.mono HB1.out.size); have m0 := BM2.out.cell 0 (v := .int .i64 m.1) rfl; have m1 := BM2.out.cell 1 (v := .slice a m.2.length cap) rfl; clear hn2 ho2 hb)
  | (go_at_call 23; (with_reducible refine (HPK.out _).mono ?_); rintro e w' ⟨rfl, rfl⟩)
  | (go_at_call 10; (with_reducible refine (beginP_any _ m _ HM2.out HK.out).mono ?_); rintro e w3 ⟨⟨af, al⟩, e3, hans, v3, rfl, hr3, hb⟩; have HAN := hidP hans; have HOA := hidP (cut_begok HCM.out hans); obtain ⟨vs3, rfl, hm3⟩ := hr3; simp only at hm3; obtain ⟨aa, ac, rfl⟩ := hm3.sl; have HU3 : Hid (Below w3.heap.size w3 (w3.alloc (.cells #[.int .i64 af, .slice aa al.length ac] 28))) := (Below.refl _ _).alloc (Nat.le_refl _) _; have HB3 : Hid (Below w2.heap.size w2 (w3.alloc (.cells #[.int .i64 af, .slice aa al.length ac] 28))) := hb.trans (HU3.out.mono hb.size); have BM3 := hidP (BM2.out.below HB3.out BM2.out.lt); have HM3 := hidP (HM2.out.later HB3.out (Nat.le_refl _)); have HX3 := hidP (HX2.out.later HB3.out (Nat.le_refl _)); have HW3 : Hid (Below w.heap.size w _) := HW2.out.trans (HB3.out.mono HW2.out.size); have BA3 : Hid (Blk (w3.alloc (.cells #[.int .i64 af, .slice aa al.length ac] 28)) w3.heap.size #[.int .i64 af, .slice aa al.length ac] 28) := Blk.made w3 _ _; have Ha3 : Hid (RunV (w3.alloc (.cells #[.int .i64 af, .slice aa al.length ac] 28)) (.agg #[.int .i64 af, .slice aa al.length ac]) (af, al)) := RunV.later ⟨_, rfl, hm3⟩ HU3.out (Nat.le_refl _); have n0 := BM3.out.cell 0 (v := .int .i64 m.1) rfl; have n1 := BM3.out.cell 1 (v := .slice a m.2.length cap) rfl; clear hans hm3 hb m0 m1 HM2 HX2 BM2 HM1 BM1)
  | (go_at_call 16; (with_reducible refine (feedP_any _ _ _ m (af, al) x _ HM3.out HK.out Ha3.out HOA.out HX3.out HL.out).mono ?_); rintro e w4 ⟨⟨sf, sl⟩, f4, hans, v4, rfl, hr4, hb⟩; have HAS := hidP hans; have HOS := hidP (fed_ok hans); obtain ⟨vs4, rfl, hm4⟩ := hr4; simp only at hm4; obtain ⟨sa, sc, rfl⟩ := hm4.sl; have HU4 : Hid (Below w4.heap.size w4 (w4.alloc (.cells #[.int .i64 sf, .slice sa sl.length sc] 28))) := (Below.refl _ _).alloc (Nat.le_refl _) _; have HB4 : Hid (Below (w3.alloc (.cells #[.int .i64 af, .slice aa al.length ac] 28)).heap.size (w3.alloc (.cells #[.int .i64 af, .slice aa al.length ac] 28)) (w4.alloc (.cells #[.int .i64 sf, .slice sa sl.length sc] 28))) := hb.trans (HU4.out.mono hb.size); have BM4 := hidP (BM3.out.below HB4.out BM3.out.lt); have BA4 := hidP (BA3.out.below HB4.out BA3.out.lt); have HM4 := hidP (HM3.out.later HB4.out (Nat.le_refl _)); have HX4 := hidP (HX3.out.later HB4.out (Nat.le_refl _)); have Ha4 := hidP (Ha3.out.later HB4.out (Nat.le_refl _)); have HW4 : Hid (Below w.heap.size w _) := HW3.out.trans (HB4.out.mono HW3.out.size); have BS4 : Hid (Blk (w4.alloc (.cells #[.int .i64 sf, .slice sa sl.length sc] 28)) w4.heap.size #[.int .i64 sf, .slice sa sl.length sc] 28) := Blk.made w4 _ _; have Hs4 : Hid (RunV (w4.alloc (.cells #[.int .i64 sf, .slice sa sl.length sc] 28)) (.agg #[.int .i64 sf, .slice sa sl.length sc]) (sf, sl)) := RunV.later ⟨_, rfl, hm4⟩ HU4.out (Nat.le_refl _); clear hans hm4 hb n0 n1 HM3 HX3 BM3 BA3 Ha3))
 generalize hW5 : (w4.alloc (.cells #[.int .i64 sf, .slice sa sl.length sc] 28)).drew = W5
 have HD5 : Hid (Below (w4.alloc (.cells #[.int .i64 sf, .slice sa sl.length sc] 28)).heap.size (w4.alloc (.cells #[.int .i64 sf, .slice sa sl.length sc] 28)) W5) := by rw [← hW5]; exact (Below.refl _ _).drew
 have BM5 := hidP (BM4.out.below HD5.out BM4.out.lt)
 have BA5 := hidP (BA4.out.below HD5.out BA4.out.lt)
 have BS5 := hidP (BS4.out.below HD5.out BS4.out.lt)
 have HM5 := hidP (HM4.out.later HD5.out (Nat.le_refl _))
 have Ha5 := hidP (Ha4.out.later HD5.out (Nat.le_refl _))
 have Hs5 := hidP (Hs4.out.later HD5.out (Nat.le_refl _))
 have HX5 := hidP (HX4.out.later HD5.out (Nat.le_refl _))
 have HW5 : Hid (Below w.heap.size w _) := HW4.out.trans (HD5.out.mono HW4.out.size)
 clear HD5 BM4 BA4 BS4 HM4 HX4 Ha4 Hs4 HW4
 obtain ⟨sv6, r6, n6⟩ := cut_head HX5.out hc8 hkx
 have HR6 := hidP r6
 have HN6 := hidP n6
 clear r6 n6
 have HS6 : HeldMRX w1.heap.size w3.heap.size (.int .i64 m.1) (.slice a m.2.length cap) (.int .i64 af) (.slice aa al.length ac) W5 := ⟨BM5.out.cell 0 rfl, BM5.out.cell 1 rfl, BA5.out.cell 0 rfl, BA5.out.cell 1 rfl⟩
 refine region_anyL (HeldMRX w1.heap.size w3.heap.size (.int .i64 m.1) (.slice a m.2.length cap) (.int .i64 af) (.slice aa al.length ac)) 100 (by kernel_rfl) ?_
 rw [hW5]
 clear hW5
 refine anyL_tk (i := 0) (v := ?v0_1) aZ0 (by kernel_rfl) ?y0_1 HS6 ?r0_1
 case y0_1 => intro wx hx; obtain ⟨h0, h1, h2, h3⟩ := hx; go_simp; try (with_reducible rfl)
 simp only [Act.put, List.setIfInBounds_toArray, List.set_cons_zero, List.set_cons_succ]
 refine anyL_tk (i := 1) (v := ?v1_2) aZ1 (by kernel_rfl) ?y1_2 HS6 ?r1_2
 case y1_2 => intro wx hx; obtain ⟨h0, h1, h2, h3⟩ := hx; go_simp; try (with_reducible rfl)
 simp only [Act.put, List.setIfInBounds_toArray, List.set_cons_zero, List.set_cons_succ]
 refine anyL_tk (i := 2) (v := ?v2_3) aZ2 (by kernel_rfl) ?y2_3 HS6 ?r2_3
 case y2_3 => intro wx hx; obtain ⟨h0, h1, h2, h3⟩ := hx; go_simp; try (with_reducible rfl)
 simp only [Act.put, List.setIfInBounds_toArray, List.set_cons_zero, List.set_cons_succ]
 refine anyL_tk (i := 3) (v := ?v3_4) aZ3 (by kernel_rfl) ?y3_4 HS6 ?r3_4
 case y3_4 => intro wx hx; obtain ⟨h0, h1, h2, h3⟩ := hx; go_simp; try (with_reducible rfl)
 simp only [Act.put, List.setIfInBounds_toArray, List.set_cons_zero, List.set_cons_succ]
 refine anyL_tk (i := 4) (v := ?v4_5) aZ4 (by kernel_rfl) ?y4_5 HS6 ?r4_5
 case y4_5 => intro wx hx; obtain ⟨h0, h1, h2, h3⟩ := hx; go_simp; try (with_reducible rfl)
 simp only [Act.put, List.setIfInBounds_toArray, List.set_cons_zero, List.set_cons_succ]
 refine anyL_tk (i := 5) (v := sv6) aZ5 (by kernel_rfl) ?y5_38 HS6 ?r5_38
 case y5_38 => intro wx hx; exact run_exec_slice rfl (HR6.out wx)
 simp only [Act.put, List.setIfInBounds_toArray, List.set_cons_zero, List.set_cons_succ]
 refine anyL_br (rs := [6, 10]) (by kernel_rfl) (by simp) (List.forall_mem_cons.2 ⟨⟨_, aZ6, rfl, fun K hK => ?_⟩, List.forall_mem_cons.2 ⟨⟨_, aZ10, rfl, fun K hK => ?_⟩, by simp⟩⟩)
 ·go_simp
  with_reducible refine (feedP_any _ _ _ m (af, al) (x.take k) _ HM5.out HK.out Ha5.out HOA.out HN6.out HLT.out).mono ?_
  rintro e u6 ⟨⟨bf, bl⟩, g6, hans, vv, rfl, hrr, hbb⟩
  have HAB := hidP hans
  have HOB := hidP (fed_ok hans)
  have HBu6 := hidP hbb
  obtain ⟨vvs, rfl, hmm⟩ := hrr
  simp only at hmm
  obtain ⟨ba, bc, rfl⟩ := hmm.sl
  have HZu6 : Hid (RunV u6 (.agg #[.int .i64 bf, .slice ba bl.length bc]) (bf, bl)) := ⟨_, rfl, hmm⟩
  clear hans hmm hbb
  have BMu6 := hidP (BM5.out.below HBu6.out BM5.out.lt)
  have BAu6 := hidP (BA5.out.below HBu6.out BA5.out.lt)
  have BSu6 := hidP (BS5.out.below HBu6.out BS5.out.lt)
  have HMu6 := hidP (HM5.out.later HBu6.out (Nat.le_refl _))
  have Hau6 := hidP (Ha5.out.later HBu6.out (Nat.le_refl _))
  have Hsu6 := hidP (Hs5.out.later HBu6.out (Nat.le_refl _))
  have HXu6 := hidP (HX5.out.later HBu6.out (Nat.le_refl _))
  have HWu6 : Hid (Below w.heap.size w _) := HW5.out.trans (HBu6.out.mono HW5.out.size)
  have HSa6 : HeldMRX w1.heap.size w3.heap.size (.int .i64 m.1) (.slice a m.2.length cap) (.int .i64 af) (.slice aa al.length ac) u6 := ⟨BMu6.out.cell 0 rfl, BMu6.out.cell 1 rfl, BAu6.out.cell 0 rfl, BAu6.out.cell 1 rfl⟩
  refine hK _ _ (.inr HSa6) ?_
  try simp only [Act.put, List.setIfInBounds_toArray, List.set_cons_zero, List.set_cons_succ]
  refine anyL_tk (i := 7) (v := ?v7_6) aZ7 (by kernel_rfl) ?y7_6 HSa6 ?r7_6
  case y7_6 => intro wx hx; obtain ⟨h0, h1, h2, h3⟩ := hx; go_simp; try (with_reducible rfl)
  simp only [Act.put, List.setIfInBounds_toArray, List.set_cons_zero, List.set_cons_succ]
  refine anyL_tk (i := 8) (v := ?v8_7) aZ8 (by kernel_rfl) ?y8_7 HSa6 ?r8_7
  case y8_7 => intro wx hx; obtain ⟨h0, h1, h2, h3⟩ := hx; go_simp; try (with_reducible rfl)
  simp only [Act.put, List.setIfInBounds_toArray, List.set_cons_zero, List.set_cons_succ]
  refine anyL_tk (i := 9) (v := ?v9_8) aZ9 (by kernel_rfl) ?y9_8 HSa6 ?r9_8
  case y9_8 => intro wx hx; obtain ⟨h0, h1, h2, h3⟩ := hx; go_simp; try (with_reducible rfl)
  simp only [Act.put, List.setIfInBounds_toArray, List.set_cons_zero, List.set_cons_succ]
  refine anyL_one (i := 10) aZ10 (by kernel_rfl) rfl (fun K hK => ?_)
  go_simp
  have hbA : Below u6.heap.size u6 (u6.alloc (.cells #[.int .i64 0, .slice none 0 0] 28)) := (Below.refl _ _).alloc (Nat.le_refl _) _
  refine hK _ _ (.inr ⟨low HSa6.1 hbA, low HSa6.2.1 hbA, low HSa6.2.2.1 hbA, low HSa6.2.2.2 hbA⟩) ?_
  try simp only [Act.put, List.setIfInBounds_toArray, List.set_cons_zero, List.set_cons_succ]
  refine anyL_one (i := 11) aZ11 (by kernel_rfl) rfl (fun K hK => ?_)
  go_simp
  have HBF : Hid (Below u6.heap.size u6 (u6.alloc (.cells #[.int .i64 bf, .slice ba bl.length bc] 28))) := (Below.refl _ _).alloc (Nat.le_refl _) _
  have BBe6 : Hid (Blk (u6.alloc (.cells #[.int .i64 bf, .slice ba bl.length bc] 28)) u6.heap.size #[.int .i64 bf, .slice ba bl.length bc] 28) := Blk.made u6 _ _
  have Hbe6 := hidP (HZu6.out.later HBF.out (Nat.le_refl _))
  have BMe6 := hidP (BMu6.out.below HBF.out BMu6.out.lt)
  have BAe6 := hidP (BAu6.out.below HBF.out BAu6.out.lt)
  have BSe6 := hidP (BSu6.out.below HBF.out BSu6.out.lt)
  have HMe6 := hidP (HMu6.out.later HBF.out (Nat.le_refl _))
  have Hae6 := hidP (Hau6.out.later HBF.out (Nat.le_refl _))
  have Hse6 := hidP (Hsu6.out.later HBF.out (Nat.le_refl _))
  have HXe6 := hidP (HXu6.out.later HBF.out (Nat.le_refl _))
  have HWe6 : Hid (Below w.heap.size w _) := HWu6.out.trans (HBF.out.mono HWu6.out.size)
  have HSe6 : HeldMRX w1.heap.size w3.heap.size (.int .i64 m.1) (.slice a m.2.length cap) (.int .i64 af) (.slice aa al.length ac) (u6.alloc (.cells #[.int .i64 bf, .slice ba bl.length bc] 28)) := ⟨BMe6.out.cell 0 rfl, BMe6.out.cell 1 rfl, BAe6.out.cell 0 rfl, BAe6.out.cell 1 rfl⟩
  refine hK _ _ (.inr HSe6) ?_
  try simp only [Act.put, List.setIfInBounds_toArray, List.set_cons_zero, List.set_cons_succ]
  refine anyL_tk (i := 12) (v := ?v12_9) aZ12 (by kernel_rfl) ?y12_9 HSe6 ?r12_9
  case y12_9 => intro wx hx; obtain ⟨h0, h1, h2, h3⟩ := hx; go_simp; try (with_reducible rfl)
  simp only [Act.put, List.setIfInBounds_toArray, List.set_cons_zero, List.set_cons_succ]
  refine anyL_done (by kernel_rfl) (NoPanic.normal ?_)
  try simp only [Act.put, List.setIfInBounds_toArray, List.set_cons_zero, List.set_cons_succ]
  generalize hw9 : u6.alloc (.cells #[.int .i64 bf, .slice ba bl.length bc] 28) = We6 at *
  clear hw9 HS6 HSa6 HSe6 hbA
  go_wp2
  generalize hW7 : We6.drew = W7
  have HD7 : Hid (Below We6.heap.size We6 W7) := by rw [← hW7]; exact (Below.refl _ _).drew
  have BM7 := hidP (BMe6.out.below HD7.out BMe6.out.lt)
  have BA7 := hidP (BAe6.out.below HD7.out BAe6.out.lt)
  have BS7 := hidP (BSe6.out.below HD7.out BSe6.out.lt)
  have BB7 := hidP (BBe6.out.below HD7.out BBe6.out.lt)
  have HM7 := hidP (HMe6.out.later HD7.out (Nat.le_refl _))
  have Hs7 := hidP (Hse6.out.later HD7.out (Nat.le_refl _))
  have Hb7 := hidP (Hbe6.out.later HD7.out (Nat.le_refl _))
  have HX7 := hidP (HXe6.out.later HD7.out (Nat.le_refl _))
  have HW7 : Hid (Below w.heap.size w _) := HWe6.out.trans (HD7.out.mono HWe6.out.size)
  clear HD7 BMe6 BAe6 BSe6 BBe6 HMe6 Hse6 Hbe6 HXe6 HWe6 Hae6
  obtain ⟨sv8, r8, n8⟩ := cut_tail HX7.out hc8 hkx
  have HR8 := hidP r8
  have HN8 := hidP n8
  clear r8 n8
  have HS7 : HeldMRX w1.heap.size u6.heap.size (.int .i64 m.1) (.slice a m.2.length cap) (.int .i64 bf) (.slice ba bl.length bc) W7 := ⟨BM7.out.cell 0 rfl, BM7.out.cell 1 rfl, BB7.out.cell 0 rfl, BB7.out.cell 1 rfl⟩
  refine region_anyL (HeldMRX w1.heap.size u6.heap.size (.int .i64 m.1) (.slice a m.2.length cap) (.int .i64 bf) (.slice ba bl.length bc)) 100 (by kernel_rfl) ?_
  rw [hW7]
  clear hW7
  refine anyL_tk (i := 0) (v := ?v0_10) aZ0 (by kernel_rfl) ?y0_10 HS7 ?r0_10
  case y0_10 => intro wx hx; obtain ⟨h0, h1, h2, h3⟩ := hx; go_simp; try (with_reducible rfl)
  simp only [Act.put, List.setIfInBounds_toArray, List.set_cons_zero, List.set_cons_succ]
  refine anyL_tk (i := 1) (v := ?v1_11) aZ1 (by kernel_rfl) ?y1_11 HS7 ?r1_11
  case y1_11 => intro wx hx; obtain ⟨h0, h1, h2, h3⟩ := hx; go_simp; try (with_reducible rfl)
  simp only [Act.put, List.setIfInBounds_toArray, List.set_cons_zero, List.set_cons_succ]
  refine anyL_tk (i := 2) (v := ?v2_12) aZ2 (by kernel_rfl) ?y2_12 HS7 ?r2_12
  case y2_12 => intro wx hx; obtain ⟨h0, h1, h2, h3⟩ := hx; go_simp; try (with_reducible rfl)
  simp only [Act.put, List.setIfInBounds_toArray, List.set_cons_zero, List.set_cons_succ]
  refine anyL_tk (i := 3) (v := ?v3_13) aZ3 (by kernel_rfl) ?y3_13 HS7 ?r3_13
  case y3_13 => intro wx hx; obtain ⟨h0, h1, h2, h3⟩ := hx; go_simp; try (with_reducible rfl)
  simp only [Act.put, List.setIfInBounds_toArray, List.set_cons_zero, List.set_cons_succ]
  refine anyL_tk (i := 4) (v := sv8) aZ4 (by kernel_rfl) ?y4_39 HS7 ?r4_39
  case y4_39 => intro wx hx; exact run_exec_slice rfl (HR8.out wx)
  simp only [Act.put, List.setIfInBounds_toArray, List.set_cons_zero, List.set_cons_succ]
  refine anyL_br (rs := [5, 9]) (by kernel_rfl) (by simp) (List.forall_mem_cons.2 ⟨⟨_, aZ5, rfl, fun K hK => ?_⟩, List.forall_mem_cons.2 ⟨⟨_, aZ9, rfl, fun K hK => ?_⟩, by simp⟩⟩)
  ·go_simp
   with_reducible refine (feedP_any _ _ _ m (bf, bl) (x.drop k) _ HM7.out HK.out Hb7.out HOB.out HN8.out HLD.out).mono ?_
   rintro e u8 ⟨⟨cf, cl⟩, i8, hans, vv, rfl, hrr, hbb⟩
   have HAC := hidP hans
   have HBu8 := hidP hbb
   obtain ⟨vvs, rfl, hmm⟩ := hrr
   simp only at hmm
   obtain ⟨ca, cc, rfl⟩ := hmm.sl
   have HZu8 : Hid (RunV u8 (.agg #[.int .i64 cf, .slice ca cl.length cc]) (cf, cl)) := ⟨_, rfl, hmm⟩
   clear hans hmm hbb
   have BMu8 := hidP (BM7.out.below HBu8.out BM7.out.lt)
   have BAu8 := hidP (BA7.out.below HBu8.out BA7.out.lt)
   have BSu8 := hidP (BS7.out.below HBu8.out BS7.out.lt)
   have BBu8 := hidP (BB7.out.below HBu8.out BB7.out.lt)
   have HMu8 := hidP (HM7.out.later HBu8.out (Nat.le_refl _))
   have Hsu8 := hidP (Hs7.out.later HBu8.out (Nat.le_refl _))
   have HWu8 : Hid (Below w.heap.size w _) := HW7.out.trans (HBu8.out.mono HW7.out.size)
   have HSa8 : HeldMRX w1.heap.size u6.heap.size (.int .i64 m.1) (.slice a m.2.length cap) (.int .i64 bf) (.slice ba bl.length bc) u8 := ⟨BMu8.out.cell 0 rfl, BMu8.out.cell 1 rfl, BBu8.out.cell 0 rfl, BBu8.out.cell 1 rfl⟩
   refine hK _ _ (.inr HSa8) ?_
   try simp only [Act.put, List.setIfInBounds_toArray, List.set_cons_zero, List.set_cons_succ]
   refine anyL_tk (i := 6) (v := ?v6_14) aZ6 (by kernel_rfl) ?y6_14 HSa8 ?r6_14
   case y6_14 => intro wx hx; obtain ⟨h0, h1, h2, h3⟩ := hx; go_simp; try (with_reducible rfl)
   simp only [Act.put, List.setIfInBounds_toArray, List.set_cons_zero, List.set_cons_succ]
   refine anyL_tk (i := 7) (v := ?v7_15) aZ7 (by kernel_rfl) ?y7_15 HSa8 ?r7_15
   case y7_15 => intro wx hx; obtain ⟨h0, h1, h2, h3⟩ := hx; go_simp; try (with_reducible rfl)
   simp only [Act.put, List.setIfInBounds_toArray, List.set_cons_zero, List.set_cons_succ]
   refine anyL_tk (i := 8) (v := ?v8_16) aZ8 (by kernel_rfl) ?y8_16 HSa8 ?r8_16
   case y8_16 => intro wx hx; obtain ⟨h0, h1, h2, h3⟩ := hx; go_simp; try (with_reducible rfl)
   simp only [Act.put, List.setIfInBounds_toArray, List.set_cons_zero, List.set_cons_succ]
   refine anyL_one (i := 9) aZ9 (by kernel_rfl) rfl (fun K hK => ?_)
   go_simp
   have hbA : Below u8.heap.size u8 (u8.alloc (.cells #[.int .i64 0, .slice none 0 0] 28)) := (Below.refl _ _).alloc (Nat.le_refl _) _
   refine hK _ _ (.inr ⟨low HSa8.1 hbA, low HSa8.2.1 hbA, low HSa8.2.2.1 hbA, low HSa8.2.2.2 hbA⟩) ?_
   try simp only [Act.put, List.setIfInBounds_toArray, List.set_cons_zero, List.set_cons_succ]
   refine anyL_one (i := 10) aZ10 (by kernel_rfl) rfl (fun K hK => ?_)
   go_simp
   have HBF : Hid (Below u8.heap.size u8 (u8.alloc (.cells #[.int .i64 cf, .slice ca cl.length cc] 28))) := (Below.refl _ _).alloc (Nat.le_refl _) _
   have BCe8 : Hid (Blk (u8.alloc (.cells #[.int .i64 cf, .slice ca cl.length cc] 28)) u8.heap.size #[.int .i64 cf, .slice ca cl.length cc] 28) := Blk.made u8 _ _
   have Hce8 := hidP (HZu8.out.later HBF.out (Nat.le_refl _))
   have BMe8 := hidP (BMu8.out.below HBF.out BMu8.out.lt)
   have BAe8 := hidP (BAu8.out.below HBF.out BAu8.out.lt)
   have BSe8 := hidP (BSu8.out.below HBF.out BSu8.out.lt)
   have BBe8 := hidP (BBu8.out.below HBF.out BBu8.out.lt)
   have HMe8 := hidP (HMu8.out.later HBF.out (Nat.le_refl _))
   have Hse8 := hidP (Hsu8.out.later HBF.out (Nat.le_refl _))
   have HWe8 : Hid (Below w.heap.size w _) := HWu8.out.trans (HBF.out.mono HWu8.out.size)
   have HSe8 : HeldMRX w1.heap.size u6.heap.size (.int .i64 m.1) (.slice a m.2.length cap) (.int .i64 bf) (.slice ba bl.length bc) (u8.alloc (.cells #[.int .i64 cf, .slice ca cl.length cc] 28)) := ⟨BMe8.out.cell 0 rfl, BMe8.out.cell 1 rfl, BBe8.out.cell 0 rfl, BBe8.out.cell 1 rfl⟩
   refine hK _ _ (.inr HSe8) ?_
   try simp only [Act.put, List.setIfInBounds_toArray, List.set_cons_zero, List.set_cons_succ]
   refine anyL_tk (i := 11) (v := ?v11_17) aZ11 (by kernel_rfl) ?y11_17 HSe8 ?r11_17
   case y11_17 => intro wx hx; obtain ⟨h0, h1, h2, h3⟩ := hx; go_simp; try (with_reducible rfl)
   simp only [Act.put, List.setIfInBounds_toArray, List.set_cons_zero, List.set_cons_succ]
   refine anyL_done (by kernel_rfl) (NoPanic.normal ?_)
   try simp only [Act.put, List.setIfInBounds_toArray, List.set_cons_zero, List.set_cons_succ]
   generalize hw9 : u8.alloc (.cells #[.int .i64 cf, .slice ca cl.length cc] 28) = We8 at *
   clear hw9 HS7 HSa8 HSe8 hbA
   obtain ⟨he, hf, hg, hi, hcs, hsf, hal⟩ := cuts HCM.out HLB.out hx12 hkx HAN.out HAS.out HAB.out HAC.out
   cases hcs
   subst he hf hg hi
   simp only at hsf hal
   have hal0 : (0 : Int) < (al.length : Int) := by omega
   have hsf0 : (sf == (x.length : Int)) = true := by simp [hsf]
   clear hsf
   have c0 := BSe8.out.cell 0 (v := .int .i64 sf) rfl
   have c1 := BSe8.out.cell 1 (v := .slice sa sl.length sc) rfl
   have d0 := BCe8.out.cell 0 (v := .int .i64 sf) rfl
   have d1 := BCe8.out.cell 1 (v := .slice ca sl.length cc) rfl
   go_wp2_with (first
    | (go_at_call 24; (with_reducible refine (sameRunK_any _ _ (sf, sl) _ Hse8.out Hce8.out HOS.out).mono ?_); rintro e w9 ⟨rfl, hb⟩; have BS9 := BSe8.out.below hb BSe8.out.lt; have BA9 := BAe8.out.below hb BAe8.out.lt; have s0 := BS9.cell 0 (v := .int .i64 sf) rfl; have s1 := BA9.cell 1 (v := .slice aa al.length ac) rfl; have HW9 : Hid (Below w.heap.size w w9) := HWe8.out.trans (hb.mono HWe8.out.size); clear hb c0 c1 d0 d1 BS9 BA9))
   go_ret
   first | exact ⟨rfl, HW9.out⟩ | exact ⟨by simp [hal], HW9.out⟩
  ·go_simp
   have hbA : Below W7.heap.size W7 (W7.alloc (.cells #[.int .i64 0, .slice none 0 0] 28)) := (Below.refl _ _).alloc (Nat.le_refl _) _
   have HE := hidP hbA
   refine hK _ _ (.inr ⟨low HS7.1 hbA, low HS7.2.1 hbA, low HS7.2.2.1 hbA, low HS7.2.2.2 hbA⟩) ?_
   try simp only [Act.put, List.setIfInBounds_toArray, List.set_cons_zero, List.set_cons_succ]
   refine anyL_one (i := 5) aZ5 (by kernel_rfl) rfl (fun K hK => ?_)
   go_simp
   with_reducible refine (feedP_any _ _ _ m (bf, bl) (x.drop k) _ (HM7.out.later HE.out (Nat.le_refl _)) HK.out (Hb7.out.later HE.out (Nat.le_refl _)) HOB.out (HN8.out.later HE.out (Nat.le_refl _)) HLD.out).mono ?_
   rintro e u8 ⟨⟨cf, cl⟩, i8, hans, vv, rfl, hrr, hbb⟩
   have HAC := hidP hans
   have HBu8 := hidP hbb
   obtain ⟨vvs, rfl, hmm⟩ := hrr
   simp only at hmm
   obtain ⟨ca, cc, rfl⟩ := hmm.sl
   have HZu8 : Hid (RunV u8 (.agg #[.int .i64 cf, .slice ca cl.length cc]) (cf, cl)) := ⟨_, rfl, hmm⟩
   clear hans hmm hbb
   have HBv8 : Hid (Below W7.heap.size W7 u8) := HE.out.trans (HBu8.out.mono HE.out.size)
   have BMu8 := hidP (BM7.out.below HBv8.out BM7.out.lt)
   have BAu8 := hidP (BA7.out.below HBv8.out BA7.out.lt)
   have BSu8 := hidP (BS7.out.below HBv8.out BS7.out.lt)
   have BBu8 := hidP (BB7.out.below HBv8.out BB7.out.lt)
   have HMu8 := hidP (HM7.out.later HBv8.out (Nat.le_refl _))
   have Hsu8 := hidP (Hs7.out.later HBv8.out (Nat.le_refl _))
   have HWu8 : Hid (Below w.heap.size w _) := HW7.out.trans (HBv8.out.mono HW7.out.size)
   have BZ : Hid (Blk u8 W7.heap.size #[.int .i64 0, .slice none 0 0] 28) := (Blk.made W7 _ _).below HBu8.out (by simp)
   have HSa8 : HeldMRX w1.heap.size u6.heap.size (.int .i64 m.1) (.slice a m.2.length cap) (.int .i64 bf) (.slice ba bl.length bc) u8 := ⟨BMu8.out.cell 0 rfl, BMu8.out.cell 1 rfl, BBu8.out.cell 0 rfl, BBu8.out.cell 1 rfl⟩
   have zM := BM7.out.lt
   have zB := BB7.out.lt
   have zq : W7.heap.size < u8.heap.size := BZ.out.lt
   refine hK _ _ (.inr HSa8) ?_
   try simp only [Act.put, List.setIfInBounds_toArray, List.set_cons_zero, List.set_cons_succ]
   refine anyL_tk (i := 6) (v := ?v6_18) aZ6 (by kernel_rfl) ?y6_18 HSa8 ?r6_18
   case y6_18 => intro wx hx; obtain ⟨h0, h1, h2, h3⟩ := hx; go_simp; try (with_reducible rfl)
   simp only [Act.put, List.setIfInBounds_toArray, List.set_cons_zero, List.set_cons_succ]
   refine anyL_tk (i := 7) (v := ?v7_19) aZ7 (by kernel_rfl) ?y7_19 HSa8 ?r7_19
   case y7_19 => intro wx hx; obtain ⟨h0, h1, h2, h3⟩ := hx; go_simp; try (with_reducible rfl)
   simp only [Act.put, List.setIfInBounds_toArray, List.set_cons_zero, List.set_cons_succ]
   refine anyL_tk (i := 8) (v := ?v8_20) aZ8 (by kernel_rfl) ?y8_20 HSa8 ?r8_20
   case y8_20 => intro wx hx; obtain ⟨h0, h1, h2, h3⟩ := hx; go_simp; try (with_reducible rfl)
   simp only [Act.put, List.setIfInBounds_toArray, List.set_cons_zero, List.set_cons_succ]
   have u0 := BZ.out.cell 0 (v := .int .i64 0) rfl
   have u1 := BZ.out.cell 1 (v := .slice none 0 0) rfl
   have t0 := BZ.out.fz 0
   have t1 := BZ.out.fz 1
   refine anyL_one (i := 10) aZ10 (by kernel_rfl) rfl (fun K hK => ?_)
   go_simp
   have HBS : Hid (Below W7.heap.size W7 ((u8.setCell ⟨W7.heap.size, 0, none⟩ (.int .i64 cf)).setCell ⟨W7.heap.size, 1, none⟩ (.slice ca cl.length cc))) := by show Below _ _ _; have h9 := HBv8.out; go_grown
   have BCe8 : Hid (Blk ((u8.setCell ⟨W7.heap.size, 0, none⟩ (.int .i64 cf)).setCell ⟨W7.heap.size, 1, none⟩ (.slice ca cl.length cc)) W7.heap.size #[.int .i64 cf, .slice ca cl.length cc] 28) := (BZ.out.set 0 _).set 1 _
   have BMe8 := hidP (BM7.out.below HBS.out BM7.out.lt)
   have BAe8 := hidP (BA7.out.below HBS.out BA7.out.lt)
   have BSe8 := hidP (BS7.out.below HBS.out BS7.out.lt)
   have BBe8 := hidP (BB7.out.below HBS.out BB7.out.lt)
   have HMe8 := hidP (HM7.out.later HBS.out (Nat.le_refl _))
   have Hse8 := hidP (Hs7.out.later HBS.out (Nat.le_refl _))
   have HWe8 : Hid (Below w.heap.size w _) := HW7.out.trans (HBS.out.mono HW7.out.size)
   have Hce8 : Hid (RunV ((u8.setCell ⟨W7.heap.size, 0, none⟩ (.int .i64 cf)).setCell ⟨W7.heap.size, 1, none⟩ (.slice ca cl.length cc)) (.agg #[.int .i64 cf, .slice ca cl.length cc]) (cf, cl)) := run_out HZu8.out (fed_nz HAC.out) BZ.out (fun b hb hx => (Below.heap_setCell _ _ _ b hx).trans (Below.heap_setCell _ _ _ b hx)) (by simp)
   have HSe8 : HeldMRX w1.heap.size u6.heap.size (.int .i64 m.1) (.slice a m.2.length cap) (.int .i64 bf) (.slice ba bl.length bc) ((u8.setCell ⟨W7.heap.size, 0, none⟩ (.int .i64 cf)).setCell ⟨W7.heap.size, 1, none⟩ (.slice ca cl.length cc)) := ⟨BMe8.out.cell 0 rfl, BMe8.out.cell 1 rfl, BBe8.out.cell 0 rfl, BBe8.out.cell 1 rfl⟩
   refine hK _ _ (.inr HSe8) ?_
   try simp only [Act.put, List.setIfInBounds_toArray, List.set_cons_zero, List.set_cons_succ]
   refine anyL_tk (i := 11) (v := ?v11_21) aZ11 (by kernel_rfl) ?y11_21 HSe8 ?r11_21
   case y11_21 => intro wx hx; obtain ⟨h0, h1, h2, h3⟩ := hx; go_simp; try (with_reducible rfl)
   simp only [Act.put, List.setIfInBounds_toArray, List.set_cons_zero, List.set_cons_succ]
   refine anyL_done (by kernel_rfl) (NoPanic.normal ?_)
   try simp only [Act.put, List.setIfInBounds_toArray, List.set_cons_zero, List.set_cons_succ]
   generalize hw9 : ((u8.setCell ⟨W7.heap.size, 0, none⟩ (.int .i64 cf)).setCell ⟨W7.heap.size, 1, none⟩ (.slice ca cl.length cc)) = We8 at *
   clear hw9 HS7 HSa8 HSe8 hbA u0 u1 t0 t1
   obtain ⟨he, hf, hg, hi, hcs, hsf, hal⟩ := cuts HCM.out HLB.out hx12 hkx HAN.out HAS.out HAB.out HAC.out
   cases hcs
   subst he hf hg hi
   simp only at hsf hal
   have hal0 : (0 : Int) < (al.length : Int) := by omega
   have hsf0 : (sf == (x.length : Int)) = true := by simp [hsf]
   clear hsf
   have c0 := BSe8.out.cell 0 (v := .int .i64 sf) rfl
   have c1 := BSe8.out.cell 1 (v := .slice sa sl.length sc) rfl
   have d0 := BCe8.out.cell 0 (v := .int .i64 sf) rfl
   have d1 := BCe8.out.cell 1 (v := .slice ca sl.length cc) rfl
   go_wp2_with (first
    | (go_at_call 24; (with_reducible refine (sameRunK_any _ _ (sf, sl) _ Hse8.out Hce8.out HOS.out).mono ?_); rintro e w9 ⟨rfl, hb⟩; have BS9 := BSe8.out.below hb BSe8.out.lt; have BA9 := BAe8.out.below hb BAe8.out.lt; have s0 := BS9.cell 0 (v := .int .i64 sf) rfl; have s1 := BA9.cell 1 (v := .slice aa al.length ac) rfl; have HW9 : Hid (Below w.heap.size w w9) := HWe8.out.trans (hb.mono HWe8.out.size); clear hb c0 c1 d0 d1 BS9 BA9))
   go_ret
   first | exact ⟨rfl, HW9.out⟩ | exact ⟨by simp [hal], HW9.out⟩
 ·go_simp
  have hbA : Below W5.heap.size W5 (W5.alloc (.cells #[.int .i64 0, .slice none 0 0] 28)) := (Below.refl _ _).alloc (Nat.le_refl _) _
  have HE := hidP hbA
  refine hK _ _ (.inr ⟨low HS6.1 hbA, low HS6.2.1 hbA, low HS6.2.2.1 hbA, low HS6.2.2.2 hbA⟩) ?_
  try simp only [Act.put, List.setIfInBounds_toArray, List.set_cons_zero, List.set_cons_succ]
  refine anyL_one (i := 6) aZ6 (by kernel_rfl) rfl (fun K hK => ?_)
  go_simp
  with_reducible refine (feedP_any _ _ _ m (af, al) (x.take k) _ (HM5.out.later HE.out (Nat.le_refl _)) HK.out (Ha5.out.later HE.out (Nat.le_refl _)) HOA.out (HN6.out.later HE.out (Nat.le_refl _)) HLT.out).mono ?_
  rintro e u6 ⟨⟨bf, bl⟩, g6, hans, vv, rfl, hrr, hbb⟩
  have HAB := hidP hans
  have HOB := hidP (fed_ok hans)
  have HBu6 := hidP hbb
  obtain ⟨vvs, rfl, hmm⟩ := hrr
  simp only at hmm
  obtain ⟨ba, bc, rfl⟩ := hmm.sl
  have HZu6 : Hid (RunV u6 (.agg #[.int .i64 bf, .slice ba bl.length bc]) (bf, bl)) := ⟨_, rfl, hmm⟩
  clear hans hmm hbb
  have HBv6 : Hid (Below W5.heap.size W5 u6) := HE.out.trans (HBu6.out.mono HE.out.size)
  have BMu6 := hidP (BM5.out.below HBv6.out BM5.out.lt)
  have BAu6 := hidP (BA5.out.below HBv6.out BA5.out.lt)
  have BSu6 := hidP (BS5.out.below HBv6.out BS5.out.lt)
  have HMu6 := hidP (HM5.out.later HBv6.out (Nat.le_refl _))
  have Hau6 := hidP (Ha5.out.later HBv6.out (Nat.le_refl _))
  have Hsu6 := hidP (Hs5.out.later HBv6.out (Nat.le_refl _))
  have HXu6 := hidP (HX5.out.later HBv6.out (Nat.le_refl _))
  have HWu6 : Hid (Below w.heap.size w _) := HW5.out.trans (HBv6.out.mono HW5.out.size)
  have BZ : Hid (Blk u6 W5.heap.size #[.int .i64 0, .slice none 0 0] 28) := (Blk.made W5 _ _).below HBu6.out (by simp)
  have HSa6 : HeldMRX w1.heap.size w3.heap.size (.int .i64 m.1) (.slice a m.2.length cap) (.int .i64 af) (.slice aa al.length ac) u6 := ⟨BMu6.out.cell 0 rfl, BMu6.out.cell 1 rfl, BAu6.out.cell 0 rfl, BAu6.out.cell 1 rfl⟩
  have zM := BM5.out.lt
  have zA := BA5.out.lt
  have zS := BS5.out.lt
  have zq : W5.heap.size < u6.heap.size := BZ.out.lt
  refine hK _ _ (.inr HSa6) ?_
  try simp only [Act.put, List.setIfInBounds_toArray, List.set_cons_zero, List.set_cons_succ]
  refine anyL_tk (i := 7) (v := ?v7_22) aZ7 (by kernel_rfl) ?y7_22 HSa6 ?r7_22
  case y7_22 => intro wx hx; obtain ⟨h0, h1, h2, h3⟩ := hx; go_simp; try (with_reducible rfl)
  simp only [Act.put, List.setIfInBounds_toArray, List.set_cons_zero, List.set_cons_succ]
  refine anyL_tk (i := 8) (v := ?v8_23) aZ8 (by kernel_rfl) ?y8_23 HSa6 ?r8_23
  case y8_23 => intro wx hx; obtain ⟨h0, h1, h2, h3⟩ := hx; go_simp; try (with_reducible rfl)
  simp only [Act.put, List.setIfInBounds_toArray, List.set_cons_zero, List.set_cons_succ]
  refine anyL_tk (i := 9) (v := ?v9_24) aZ9 (by kernel_rfl) ?y9_24 HSa6 ?r9_24
  case y9_24 => intro wx hx; obtain ⟨h0, h1, h2, h3⟩ := hx; go_simp; try (with_reducible rfl)
  simp only [Act.put, List.setIfInBounds_toArray, List.set_cons_zero, List.set_cons_succ]
  have u0 := BZ.out.cell 0 (v := .int .i64 0) rfl
  have u1 := BZ.out.cell 1 (v := .slice none 0 0) rfl
  have t0 := BZ.out.fz 0
  have t1 := BZ.out.fz 1
  refine anyL_one (i := 11) aZ11 (by kernel_rfl) rfl (fun K hK => ?_)
  go_simp
  have HBS : Hid (Below W5.heap.size W5 ((u6.setCell ⟨W5.heap.size, 0, none⟩ (.int .i64 bf)).setCell ⟨W5.heap.size, 1, none⟩ (.slice ba bl.length bc))) := by show Below _ _ _; have h9 := HBv6.out; go_grown
  have BBe6 : Hid (Blk ((u6.setCell ⟨W5.heap.size, 0, none⟩ (.int .i64 bf)).setCell ⟨W5.heap.size, 1, none⟩ (.slice ba bl.length bc)) W5.heap.size #[.int .i64 bf, .slice ba bl.length bc] 28) := (BZ.out.set 0 _).set 1 _
  have BMe6 := hidP (BM5.out.below HBS.out BM5.out.lt)
  have BAe6 := hidP (BA5.out.below HBS.out BA5.out.lt)
  have BSe6 := hidP (BS5.out.below HBS.out BS5.out.lt)
  have HMe6 := hidP (HM5.out.later HBS.out (Nat.le_refl _))
  have Hae6 := hidP (Ha5.out.later HBS.out (Nat.le_refl _))
  have Hse6 := hidP (Hs5.out.later HBS.out (Nat.le_refl _))
  have HXe6 := hidP (HX5.out.later HBS.out (Nat.le_refl _))
  have HWe6 : Hid (Below w.heap.size w _) := HW5.out.trans (HBS.out.mono HW5.out.size)
  have Hbe6 : Hid (RunV ((u6.setCell ⟨W5.heap.size, 0, none⟩ (.int .i64 bf)).setCell ⟨W5.heap.size, 1, none⟩ (.slice ba bl.length bc)) (.agg #[.int .i64 bf, .slice ba bl.length bc]) (bf, bl)) := run_out HZu6.out (fed_nz HAB.out) BZ.out (fun b hb hx => (Below.heap_setCell _ _ _ b hx).trans (Below.heap_setCell _ _ _ b hx)) (by simp)
  have HSe6 : HeldMRX w1.heap.size w3.heap.size (.int .i64 m.1) (.slice a m.2.length cap) (.int .i64 af) (.slice aa al.length ac) ((u6.setCell ⟨W5.heap.size, 0, none⟩ (.int .i64 bf)).setCell ⟨W5.heap.size, 1, none⟩ (.slice ba bl.length bc)) := ⟨BMe6.out.cell 0 rfl, BMe6.out.cell 1 rfl, BAe6.out.cell 0 rfl, BAe6.out.cell 1 rfl⟩
  refine hK _ _ (.inr HSe6) ?_
  try simp only [Act.put, List.setIfInBounds_toArray, List.set_cons_zero, List.set_cons_succ]
  refine anyL_tk (i := 12) (v := ?v12_25) aZ12 (by kernel_rfl) ?y12_25 HSe6 ?r12_25
  case y12_25 => intro wx hx; obtain ⟨h0, h1, h2, h3⟩ := hx; go_simp; try (with_reducible rfl)
  simp only [Act.put, List.setIfInBounds_toArray, List.set_cons_zero, List.set_cons_succ]
  refine anyL_done (by kernel_rfl) (NoPanic.normal ?_)
  try simp only [Act.put, List.setIfInBounds_toArray, List.set_cons_zero, List.set_cons_succ]
  generalize hw9 : ((u6.setCell ⟨W5.heap.size, 0, none⟩ (.int .i64 bf)).setCell ⟨W5.heap.size, 1, none⟩ (.slice ba bl.length bc)) = We6 at *
  clear hw9 HS6 HSa6 HSe6 hbA u0 u1 t0 t1
  go_wp2
  generalize hW7 : We6.drew = W7
  have HD7 : Hid (Below We6.heap.size We6 W7) := by rw [← hW7]; exact (Below.refl _ _).drew
  have BM7 := hidP (BMe6.out.below HD7.out BMe6.out.lt)
  have BA7 := hidP (BAe6.out.below HD7.out BAe6.out.lt)
  have BS7 := hidP (BSe6.out.below HD7.out BSe6.out.lt)
  have BB7 := hidP (BBe6.out.below HD7.out BBe6.out.lt)
  have HM7 := hidP (HMe6.out.later HD7.out (Nat.le_refl _))
  have Hs7 := hidP (Hse6.out.later HD7.out (Nat.le_refl _))
  have Hb7 := hidP (Hbe6.out.later HD7.out (Nat.le_refl _))
  have HX7 := hidP (HXe6.out.later HD7.out (Nat.le_refl _))
  have HW7 : Hid (Below w.heap.size w _) := HWe6.out.trans (HD7.out.mono HWe6.out.size)
  clear HD7 BMe6 BAe6 BSe6 BBe6 HMe6 Hse6 Hbe6 HXe6 HWe6 Hae6
  obtain ⟨sv8, r8, n8⟩ := cut_tail HX7.out hc8 hkx
  have HR8 := hidP r8
  have HN8 := hidP n8
  clear r8 n8
  have HS7 : HeldMRX w1.heap.size W5.heap.size (.int .i64 m.1) (.slice a m.2.length cap) (.int .i64 bf) (.slice ba bl.length bc) W7 := ⟨BM7.out.cell 0 rfl, BM7.out.cell 1 rfl, BB7.out.cell 0 rfl, BB7.out.cell 1 rfl⟩
  refine region_anyL (HeldMRX w1.heap.size W5.heap.size (.int .i64 m.1) (.slice a m.2.length cap) (.int .i64 bf) (.slice ba bl.length bc)) 100 (by kernel_rfl) ?_
  rw [hW7]
  clear hW7
  refine anyL_tk (i := 0) (v := ?v0_26) aZ0 (by kernel_rfl) ?y0_26 HS7 ?r0_26
  case y0_26 => intro wx hx; obtain ⟨h0, h1, h2, h3⟩ := hx; go_simp; try (with_reducible rfl)
  simp only [Act.put, List.setIfInBounds_toArray, List.set_cons_zero, List.set_cons_succ]
  refine anyL_tk (i := 1) (v := ?v1_27) aZ1 (by kernel_rfl) ?y1_27 HS7 ?r1_27
  case y1_27 => intro wx hx; obtain ⟨h0, h1, h2, h3⟩ := hx; go_simp; try (with_reducible rfl)
  simp only [Act.put, List.setIfInBounds_toArray, List.set_cons_zero, List.set_cons_succ]
  refine anyL_tk (i := 2) (v := ?v2_28) aZ2 (by kernel_rfl) ?y2_28 HS7 ?r2_28
  case y2_28 => intro wx hx; obtain ⟨h0, h1, h2, h3⟩ := hx; go_simp; try (with_reducible rfl)
  simp only [Act.put, List.setIfInBounds_toArray, List.set_cons_zero, List.set_cons_succ]
  refine anyL_tk (i := 3) (v := ?v3_29) aZ3 (by kernel_rfl) ?y3_29 HS7 ?r3_29
  case y3_29 => intro wx hx; obtain ⟨h0, h1, h2, h3⟩ := hx; go_simp; try (with_reducible rfl)
  simp only [Act.put, List.setIfInBounds_toArray, List.set_cons_zero, List.set_cons_succ]
  refine anyL_tk (i := 4) (v := sv8) aZ4 (by kernel_rfl) ?y4_40 HS7 ?r4_40
  case y4_40 => intro wx hx; exact run_exec_slice rfl (HR8.out wx)
  simp only [Act.put, List.setIfInBounds_toArray, List.set_cons_zero, List.set_cons_succ]
  refine anyL_br (rs := [5, 9]) (by kernel_rfl) (by simp) (List.forall_mem_cons.2 ⟨⟨_, aZ5, rfl, fun K hK => ?_⟩, List.forall_mem_cons.2 ⟨⟨_, aZ9, rfl, fun K hK => ?_⟩, by simp⟩⟩)
  ·go_simp
   with_reducible refine (feedP_any _ _ _ m (bf, bl) (x.drop k) _ HM7.out HK.out Hb7.out HOB.out HN8.out HLD.out).mono ?_
   rintro e u8 ⟨⟨cf, cl⟩, i8, hans, vv, rfl, hrr, hbb⟩
   have HAC := hidP hans
   have HBu8 := hidP hbb
   obtain ⟨vvs, rfl, hmm⟩ := hrr
   simp only at hmm
   obtain ⟨ca, cc, rfl⟩ := hmm.sl
   have HZu8 : Hid (RunV u8 (.agg #[.int .i64 cf, .slice ca cl.length cc]) (cf, cl)) := ⟨_, rfl, hmm⟩
   clear hans hmm hbb
   have BMu8 := hidP (BM7.out.below HBu8.out BM7.out.lt)
   have BAu8 := hidP (BA7.out.below HBu8.out BA7.out.lt)
   have BSu8 := hidP (BS7.out.below HBu8.out BS7.out.lt)
   have BBu8 := hidP (BB7.out.below HBu8.out BB7.out.lt)
   have HMu8 := hidP (HM7.out.later HBu8.out (Nat.le_refl _))
   have Hsu8 := hidP (Hs7.out.later HBu8.out (Nat.le_refl _))
   have HWu8 : Hid (Below w.heap.size w _) := HW7.out.trans (HBu8.out.mono HW7.out.size)
   have HSa8 : HeldMRX w1.heap.size W5.heap.size (.int .i64 m.1) (.slice a m.2.length cap) (.int .i64 bf) (.slice ba bl.length bc) u8 := ⟨BMu8.out.cell 0 rfl, BMu8.out.cell 1 rfl, BBu8.out.cell 0 rfl, BBu8.out.cell 1 rfl⟩
   refine hK _ _ (.inr HSa8) ?_
   try simp only [Act.put, List.setIfInBounds_toArray, List.set_cons_zero, List.set_cons_succ]
   refine anyL_tk (i := 6) (v := ?v6_30) aZ6 (by kernel_rfl) ?y6_30 HSa8 ?r6_30
   case y6_30 => intro wx hx; obtain ⟨h0, h1, h2, h3⟩ := hx; go_simp; try (with_reducible rfl)
   simp only [Act.put, List.setIfInBounds_toArray, List.set_cons_zero, List.set_cons_succ]
   refine anyL_tk (i := 7) (v := ?v7_31) aZ7 (by kernel_rfl) ?y7_31 HSa8 ?r7_31
   case y7_31 => intro wx hx; obtain ⟨h0, h1, h2, h3⟩ := hx; go_simp; try (with_reducible rfl)
   simp only [Act.put, List.setIfInBounds_toArray, List.set_cons_zero, List.set_cons_succ]
   refine anyL_tk (i := 8) (v := ?v8_32) aZ8 (by kernel_rfl) ?y8_32 HSa8 ?r8_32
   case y8_32 => intro wx hx; obtain ⟨h0, h1, h2, h3⟩ := hx; go_simp; try (with_reducible rfl)
   simp only [Act.put, List.setIfInBounds_toArray, List.set_cons_zero, List.set_cons_succ]
   refine anyL_one (i := 9) aZ9 (by kernel_rfl) rfl (fun K hK => ?_)
   go_simp
   have hbA : Below u8.heap.size u8 (u8.alloc (.cells #[.int .i64 0, .slice none 0 0] 28)) := (Below.refl _ _).alloc (Nat.le_refl _) _
   refine hK _ _ (.inr ⟨low HSa8.1 hbA, low HSa8.2.1 hbA, low HSa8.2.2.1 hbA, low HSa8.2.2.2 hbA⟩) ?_
   try simp only [Act.put, List.setIfInBounds_toArray, List.set_cons_zero, List.set_cons_succ]
   refine anyL_one (i := 10) aZ10 (by kernel_rfl) rfl (fun K hK => ?_)
   go_simp
   have HBF : Hid (Below u8.heap.size u8 (u8.alloc (.cells #[.int .i64 cf, .slice ca cl.length cc] 28))) := (Below.refl _ _).alloc (Nat.le_refl _) _
   have BCe8 : Hid (Blk (u8.alloc (.cells #[.int .i64 cf, .slice ca cl.length cc] 28)) u8.heap.size #[.int .i64 cf, .slice ca cl.length cc] 28) := Blk.made u8 _ _
   have Hce8 := hidP (HZu8.out.later HBF.out (Nat.le_refl _))
   have BMe8 := hidP (BMu8.out.below HBF.out BMu8.out.lt)
   have BAe8 := hidP (BAu8.out.below HBF.out BAu8.out.lt)
   have BSe8 := hidP (BSu8.out.below HBF.out BSu8.out.lt)
   have BBe8 := hidP (BBu8.out.below HBF.out BBu8.out.lt)
   have HMe8 := hidP (HMu8.out.later HBF.out (Nat.le_refl _))
   have Hse8 := hidP (Hsu8.out.later HBF.out (Nat.le_refl _))
   have HWe8 : Hid (Below w.heap.size w _) := HWu8.out.trans (HBF.out.mono HWu8.out.size)
   have HSe8 : HeldMRX w1.heap.size W5.heap.size (.int .i64 m.1) (.slice a m.2.length cap) (.int .i64 bf) (.slice ba bl.length bc) (u8.alloc (.cells #[.int .i64 cf, .slice ca cl.length cc] 28)) := ⟨BMe8.out.cell 0 rfl, BMe8.out.cell 1 rfl, BBe8.out.cell 0 rfl, BBe8.out.cell 1 rfl⟩
   refine hK _ _ (.inr HSe8) ?_
   try simp only [Act.put, List.setIfInBounds_toArray, List.set_cons_zero, List.set_cons_succ]
   refine anyL_tk (i := 11) (v := ?v11_33) aZ11 (by kernel_rfl) ?y11_33 HSe8 ?r11_33
   case y11_33 => intro wx hx; obtain ⟨h0, h1, h2, h3⟩ := hx; go_simp; try (with_reducible rfl)
   simp only [Act.put, List.setIfInBounds_toArray, List.set_cons_zero, List.set_cons_succ]
   refine anyL_done (by kernel_rfl) (NoPanic.normal ?_)
   try simp only [Act.put, List.setIfInBounds_toArray, List.set_cons_zero, List.set_cons_succ]
   generalize hw9 : u8.alloc (.cells #[.int .i64 cf, .slice ca cl.length cc] 28) = We8 at *
   clear hw9 HS7 HSa8 HSe8 hbA
   obtain ⟨he, hf, hg, hi, hcs, hsf, hal⟩ := cuts HCM.out HLB.out hx12 hkx HAN.out HAS.out HAB.out HAC.out
   cases hcs
   subst he hf hg hi
   simp only at hsf hal
   have hal0 : (0 : Int) < (al.length : Int) := by omega
   have hsf0 : (sf == (x.length : Int)) = true := by simp [hsf]
   clear hsf
   have c0 := BSe8.out.cell 0 (v := .int .i64 sf) rfl
   have c1 := BSe8.out.cell 1 (v := .slice sa sl.length sc) rfl
   have d0 := BCe8.out.cell 0 (v := .int .i64 sf) rfl
   have d1 := BCe8.out.cell 1 (v := .slice ca sl.length cc) rfl
   go_wp2_with (first
    | (go_at_call 24; (with_reducible refine (sameRunK_any _ _ (sf, sl) _ Hse8.out Hce8.out HOS.out).mono ?_); rintro e w9 ⟨rfl, hb⟩; have BS9 := BSe8.out.below hb BSe8.out.lt; have BA9 := BAe8.out.below hb BAe8.out.lt; have s0 := BS9.cell 0 (v := .int .i64 sf) rfl; have s1 := BA9.cell 1 (v := .slice aa al.length ac) rfl; have HW9 : Hid (Below w.heap.size w w9) := HWe8.out.trans (hb.mono HWe8.out.size); clear hb c0 c1 d0 d1 BS9 BA9))
   go_ret
   first | exact ⟨rfl, HW9.out⟩ | exact ⟨by simp [hal], HW9.out⟩
  ·go_simp
   have hbA : Below W7.heap.size W7 (W7.alloc (.cells #[.int .i64 0, .slice none 0 0] 28)) := (Below.refl _ _).alloc (Nat.le_refl _) _
   have HE := hidP hbA
   refine hK _ _ (.inr ⟨low HS7.1 hbA, low HS7.2.1 hbA, low HS7.2.2.1 hbA, low HS7.2.2.2 hbA⟩) ?_
   try simp only [Act.put, List.setIfInBounds_toArray, List.set_cons_zero, List.set_cons_succ]
   refine anyL_one (i := 5) aZ5 (by kernel_rfl) rfl (fun K hK => ?_)
   go_simp
   with_reducible refine (feedP_any _ _ _ m (bf, bl) (x.drop k) _ (HM7.out.later HE.out (Nat.le_refl _)) HK.out (Hb7.out.later HE.out (Nat.le_refl _)) HOB.out (HN8.out.later HE.out (Nat.le_refl _)) HLD.out).mono ?_
   rintro e u8 ⟨⟨cf, cl⟩, i8, hans, vv, rfl, hrr, hbb⟩
   have HAC := hidP hans
   have HBu8 := hidP hbb
   obtain ⟨vvs, rfl, hmm⟩ := hrr
   simp only at hmm
   obtain ⟨ca, cc, rfl⟩ := hmm.sl
   have HZu8 : Hid (RunV u8 (.agg #[.int .i64 cf, .slice ca cl.length cc]) (cf, cl)) := ⟨_, rfl, hmm⟩
   clear hans hmm hbb
   have HBv8 : Hid (Below W7.heap.size W7 u8) := HE.out.trans (HBu8.out.mono HE.out.size)
   have BMu8 := hidP (BM7.out.below HBv8.out BM7.out.lt)
   have BAu8 := hidP (BA7.out.below HBv8.out BA7.out.lt)
   have BSu8 := hidP (BS7.out.below HBv8.out BS7.out.lt)
   have BBu8 := hidP (BB7.out.below HBv8.out BB7.out.lt)
   have HMu8 := hidP (HM7.out.later HBv8.out (Nat.le_refl _))
   have Hsu8 := hidP (Hs7.out.later HBv8.out (Nat.le_refl _))
   have HWu8 : Hid (Below w.heap.size w _) := HW7.out.trans (HBv8.out.mono HW7.out.size)
   have BZ : Hid (Blk u8 W7.heap.size #[.int .i64 0, .slice none 0 0] 28) := (Blk.made W7 _ _).below HBu8.out (by simp)
   have HSa8 : HeldMRX w1.heap.size W5.heap.size (.int .i64 m.1) (.slice a m.2.length cap) (.int .i64 bf) (.slice ba bl.length bc) u8 := ⟨BMu8.out.cell 0 rfl, BMu8.out.cell 1 rfl, BBu8.out.cell 0 rfl, BBu8.out.cell 1 rfl⟩
   have zM := BM7.out.lt
   have zB := BB7.out.lt
   have zq : W7.heap.size < u8.heap.size := BZ.out.lt
   refine hK _ _ (.inr HSa8) ?_
   try simp only [Act.put, List.setIfInBounds_toArray, List.set_cons_zero, List.set_cons_succ]
   refine anyL_tk (i := 6) (v := ?v6_34) aZ6 (by kernel_rfl) ?y6_34 HSa8 ?r6_34
   case y6_34 => intro wx hx; obtain ⟨h0, h1, h2, h3⟩ := hx; go_simp; try (with_reducible rfl)
   simp only [Act.put, List.setIfInBounds_toArray, List.set_cons_zero, List.set_cons_succ]
   refine anyL_tk (i := 7) (v := ?v7_35) aZ7 (by kernel_rfl) ?y7_35 HSa8 ?r7_35
   case y7_35 => intro wx hx; obtain ⟨h0, h1, h2, h3⟩ := hx; go_simp; try (with_reducible rfl)
   simp only [Act.put, List.setIfInBounds_toArray, List.set_cons_zero, List.set_cons_succ]
   refine anyL_tk (i := 8) (v := ?v8_36) aZ8 (by kernel_rfl) ?y8_36 HSa8 ?r8_36
   case y8_36 => intro wx hx; obtain ⟨h0, h1, h2, h3⟩ := hx; go_simp; try (with_reducible rfl)
   simp only [Act.put, List.setIfInBounds_toArray, List.set_cons_zero, List.set_cons_succ]
   have u0 := BZ.out.cell 0 (v := .int .i64 0) rfl
   have u1 := BZ.out.cell 1 (v := .slice none 0 0) rfl
   have t0 := BZ.out.fz 0
   have t1 := BZ.out.fz 1
   refine anyL_one (i := 10) aZ10 (by kernel_rfl) rfl (fun K hK => ?_)
   go_simp
   have HBS : Hid (Below W7.heap.size W7 ((u8.setCell ⟨W7.heap.size, 0, none⟩ (.int .i64 cf)).setCell ⟨W7.heap.size, 1, none⟩ (.slice ca cl.length cc))) := by show Below _ _ _; have h9 := HBv8.out; go_grown
   have BCe8 : Hid (Blk ((u8.setCell ⟨W7.heap.size, 0, none⟩ (.int .i64 cf)).setCell ⟨W7.heap.size, 1, none⟩ (.slice ca cl.length cc)) W7.heap.size #[.int .i64 cf, .slice ca cl.length cc] 28) := (BZ.out.set 0 _).set 1 _
   have BMe8 := hidP (BM7.out.below HBS.out BM7.out.lt)
   have BAe8 := hidP (BA7.out.below HBS.out BA7.out.lt)
   have BSe8 := hidP (BS7.out.below HBS.out BS7.out.lt)
   have BBe8 := hidP (BB7.out.below HBS.out BB7.out.lt)
   have HMe8 := hidP (HM7.out.later HBS.out (Nat.le_refl _))
   have Hse8 := hidP (Hs7.out.later HBS.out (Nat.le_refl _))
   have HWe8 : Hid (Below w.heap.size w _) := HW7.out.trans (HBS.out.mono HW7.out.size)
   have Hce8 : Hid (RunV ((u8.setCell ⟨W7.heap.size, 0, none⟩ (.int .i64 cf)).setCell ⟨W7.heap.size, 1, none⟩ (.slice ca cl.length cc)) (.agg #[.int .i64 cf, .slice ca cl.length cc]) (cf, cl)) := run_out HZu8.out (fed_nz HAC.out) BZ.out (fun b hb hx => (Below.heap_setCell _ _ _ b hx).trans (Below.heap_setCell _ _ _ b hx)) (by simp)
   have HSe8 : HeldMRX w1.heap.size W5.heap.size (.int .i64 m.1) (.slice a m.2.length cap) (.int .i64 bf) (.slice ba bl.length bc) ((u8.setCell ⟨W7.heap.size, 0, none⟩ (.int .i64 cf)).setCell ⟨W7.heap.size, 1, none⟩ (.slice ca cl.length cc)) := ⟨BMe8.out.cell 0 rfl, BMe8.out.cell 1 rfl, BBe8.out.cell 0 rfl, BBe8.out.cell 1 rfl⟩
   refine hK _ _ (.inr HSe8) ?_
   try simp only [Act.put, List.setIfInBounds_toArray, List.set_cons_zero, List.set_cons_succ]
   refine anyL_tk (i := 11) (v := ?v11_37) aZ11 (by kernel_rfl) ?y11_37 HSe8 ?r11_37
   case y11_37 => intro wx hx; obtain ⟨h0, h1, h2, h3⟩ := hx; go_simp; try (with_reducible rfl)
   simp only [Act.put, List.setIfInBounds_toArray, List.set_cons_zero, List.set_cons_succ]
   refine anyL_done (by kernel_rfl) (NoPanic.normal ?_)
   try simp only [Act.put, List.setIfInBounds_toArray, List.set_cons_zero, List.set_cons_succ]
   generalize hw9 : ((u8.setCell ⟨W7.heap.size, 0, none⟩ (.int .i64 cf)).setCell ⟨W7.heap.size, 1, none⟩ (.slice ca cl.length cc)) = We8 at *
   clear hw9 HS7 HSa8 HSe8 hbA u0 u1 t0 t1
   obtain ⟨he, hf, hg, hi, hcs, hsf, hal⟩ := cuts HCM.out HLB.out hx12 hkx HAN.out HAS.out HAB.out HAC.out
   cases hcs
   subst he hf hg hi
   simp only at hsf hal
   have hal0 : (0 : Int) < (al.length : Int) := by omega
   have hsf0 : (sf == (x.length : Int)) = true := by simp [hsf]
   clear hsf
   have c0 := BSe8.out.cell 0 (v := .int .i64 sf) rfl
   have c1 := BSe8.out.cell 1 (v := .slice sa sl.length sc) rfl
   have d0 := BCe8.out.cell 0 (v := .int .i64 sf) rfl
   have d1 := BCe8.out.cell 1 (v := .slice ca sl.length cc) rfl
   go_wp2_with (first
    | (go_at_call 24; (with_reducible refine (sameRunK_any _ _ (sf, sl) _ Hse8.out Hce8.out HOS.out).mono ?_); rintro e w9 ⟨rfl, hb⟩; have BS9 := BSe8.out.below hb BSe8.out.lt; have BA9 := BAe8.out.below hb BAe8.out.lt; have s0 := BS9.cell 0 (v := .int .i64 sf) rfl; have s1 := BA9.cell 1 (v := .slice aa al.length ac) rfl; have HW9 : Hid (Below w.heap.size w w9) := HWe8.out.trans (hb.mono HWe8.out.size); clear hb c0 c1 d0 d1 BS9 BA9))
   go_ret
   first | exact ⟨rfl, HW9.out⟩ | exact ⟨by simp [hal], HW9.out⟩
theorem walk (v : Value) (r : Rw) (a1 : Option Addr) (len1 cap1 : Nat) (z1 : List Int) (k : Int) (w : World) (h : RawV w v r ∧ okR r ∧ wfR r) (w1 : IsRow .i64 w a1 len1 cap1 z1 ∧ cap1 * 8 ≤ 140737488351232) (hk : (Lit.int .i64 k).wf = true) :
  Calls Try.prog 6 #[v, .slice a1 len1 cap1, .int .i64 k] w fun e w' => e = .returned (.bool true) ∧ Below w.heap.size w w' := by
 obtain ⟨p1, _, _⟩ := row_nums w1.1
 exact core v r _ _ k w h.1 h.2.1 h.2.2 p1 (row_wf w1.1) hk
set_option maxRecDepth 100000 in
theorem lifted (os : Os) (started : os.Started) (H : Type) (enc : TypeId × Value → H) :
  ReturnsInHanded {} Try.checked os 6 .any (Rows.streamCutsSpec.pre6 enc Try.prog Try.f6 Rows.streamCutsRow.domain false) (Rows.streamCutsSpec.post enc Try.prog Try.f6 false true false false) := by
 refine returnsInHanded_of_change_sized (C := Try.checked) own started (by kernel_rfl) Try.func6
  (ChangeSpec.witness6 (enc := enc) (C := Try.checked) false ⟨#[], #[.agg #[.int .i64 0, .slice none 0 0], .slice none 0 0, .int .i64 0], []⟩ 8 (by kernel_rfl) (by kernel_rfl) (by kernel_rfl) (by kernel_rfl)) ?_
 intro W base args ds gs before hval0 hW hcnd hsz0 _
 have hsz : (DataW.weightsEach Try.prog (Try.f6.params.toList ++ Rows.streamCutsSpec.plain.varTypes Try.prog) (ds ++ gs)).all (· ≤ reachBytes) = true := hsz0
 have hval : ∀ (j : Nat) t v, Try.f6.params[j]? = some t → args[j]? = some v → Value.okWide Try.prog W .any base t v := hval0
 clear hval0 hsz0
 have hW' := hW
 obtain ⟨p, q, hA0, hV, rfl, hfz, hnd⟩ := hW
 have hA : DataW.TrodAll enc Try.prog W 0 (fun _ => true) true Try.f6.params.toList args.toList ds p := hA0
 rw [Try.params6] at hA hval hsz
 obtain ⟨v0, vs0, d0, ds0, p0, q0, hargs, rfl, rfl, h0, r0⟩ := trodAll_cons hA
 obtain ⟨v1, vs1, d1, ds1, p1, q1, rfl, rfl, rfl, h1, r1⟩ := trodAll_cons r0
 obtain ⟨v2, vs2, d2, ds2, p2, q2, rfl, rfl, rfl, h2, r2⟩ := trodAll_cons r1
 obtain ⟨rfl, rfl, rfl⟩ := trodAll_nil r2
 obtain rfl : args = #[v0, v1, v2] := by cases args; simp_all
 obtain ⟨rfl, rfl⟩ := trodVars_none hV
 have k0 := h0
 have lt0 : ∀ x ∈ p0, x.block < W.heap.size := by obtain ⟨m, hm⟩ := k0; exact DataW.trod_lt m _ _ _ hm
 obtain ⟨z0, w0⟩ : ∃ m : Rw, RawV W v0 m ∧ okR m ∧ wfR m := by
  obtain ⟨c0, c1, y0, y1, n, rfl, hd, hp, t0, t1⟩ := Go.Joins.open_agg2 Try.underlying46 (by kernel_rfl) (by kernel_rfl) (hval 0 46 v0 rfl rfl) h0
  subst hd
  exact open_raw t0 t1 ((Fits.arg hsz (j := 0) rfl rfl).field Try.underlying46 (f := 1) rfl rfl)
 obtain ⟨a1, len1, cap1, rfl⟩ := okWide_slice Try.underlying35 (hval 1 35 v1 rfl rfl)
 have k1 := h1
 have lt1 : ∀ x ∈ p1, x.block < W.heap.size := by obtain ⟨m, hm⟩ := k1; exact DataW.trod_lt m _ _ _ hm
 obtain ⟨z1, w1⟩ : ∃ zs, IsRow .i64 W a1 len1 cap1 zs ∧ cap1 * 8 ≤ 140737488351232 := by
  obtain ⟨fuel, hf⟩ := h1
  rcases open_ints Try.underlying35 Try.underlying3 (by kernel_rfl) hf with ⟨hcs, _⟩ | ⟨x, l, c, zs, hcs, _, hl, hm, hz, hx, hcell, hwz⟩
  ·simp [Value.cells] at hcs
   obtain ⟨rfl, rfl, rfl⟩ := hcs
   exact ⟨[], .inl ⟨rfl, rfl, rfl, rfl⟩, by omega⟩
  ·have hd := congrArg Prod.fst hx
   have hsw := sized_slice hsz (j := 1) (t := 35) (e := 3) rfl (congrArg some hd) Try.underlying35
   have hby : Try.prog.bytesOf 3 = 8 := by kernel_rfl
   rw [hby] at hsw
   simp [Value.cells] at hcs
   obtain ⟨rfl, rfl, rfl⟩ := hcs
   have hz' : zs.length = cap1 := by simpa using hz
   simp only [lits, List.length_map, List.length_take, List.length_drop, reachBytes] at hsw
   exact ⟨zs, .inr ⟨_, rfl, hl, hm, hz', hcell, hwz⟩, by omega⟩
 obtain ⟨a2, rfl, rfl, rfl, w2⟩ := open_int Try.underlying3 (hval 2 3 v2 rfl rfl) h2
 refine (walk v0 z0 a1 len1 cap1 z1 a2 W w0 w1 w2).mono fun e W' ⟨he, bel⟩ => ?_
 subst he
 exact ⟨_, rfl, _, _, _, [], _, [], hW', trodAll_mk1 (shut_bool Try.underlying4 _), (trodAll_cons_mk (Below.trod laidOut (by kernel_rfl) (of_decide_eq_true (by kernel_rfl)) k0 bel lt0) (trodAll_cons_mk (Below.trod laidOut (by kernel_rfl) (of_decide_eq_true (by kernel_rfl)) k1 bel lt1) (trodAll_cons_mk (shut_int Try.underlying3 w2) trodAll_mk0))), rfl, bel.frame _, fun h => by cases h⟩
end Go.Proofs.Ytkeeiihaijhdoaa.streamCuts
namespace Go.Proofs.Ytkeeiihaijhdoaa
theorem streamCuts_holds : Rows.StreamCutsSaid :=
 OpenClaim.holds_of_wide 6 Try.f6 rfl rfl rfl rfl rfl rfl rfl ⟨rfl, rfl, rfl, rfl, rfl⟩ rfl rfl rfl rfl rfl (by kernel_rfl) Try.func6 (by kernel_rfl)
  (of_decide_eq_true (by kernel_rfl)) (by unfold Func.isWrapper; first | (rw [if_pos (by decide +kernel)]; kernel_rfl) | (rw [if_neg (by decide +kernel)]; exact ⟨rfl, rfl⟩))
  (fun os started H enc _ => streamCuts.lifted os started H enc)
#print axioms streamCuts_holds
end Go.Proofs.Ytkeeiihaijhdoaa
