/- What Feed answers (the program's). -/
import Derived.Test.YtkeeiihaijhdoaaDai
import Derived.Test.YtkeeiihaijhdoaaDaj
import Derived.Test.YtkeeiihaijhdoaaDaa
import Derived.Test.YtkeeiihaijhdoaaDab
namespace Go.Proofs.Ytkeeiihaijhdoaa.Sm
open Go.ChangeShapes Go.WideShapes Go.ChangeAt Go.RowKit Go.Maps
open Go.Proofs.Ytkeeiihaijhdoaa.Pl Go.Proofs.Ytkeeiihaijhdoaa.Wt
set_option linter.unusedVariables false
set_option linter.unusedSimpArgs false
set_option maxRecDepth 100000 in
set_option maxHeartbeats 6000000 in
theorem feedP_any (v vr vx : Value) (m : Mc) (r : Ru) (x : List Int) (w : World) (h : Mach w v m) (hok : okM m) (hr : RunV w vr r) (hou : okU r) (hx : Nums w vx x) (hxl : x.length ≤ 17592186044000) :
  Calls Try.prog 16 #[v, vr, vx] w fun e w' => ∃ s ec, FedAns m r x s ec ∧ RunRes s ec w e w' := by
 have HM := hidP h
 have HK := hidP hok
 have HR := hidP hr
 have HO := hidP hou
 have HX := hidP hx
 obtain ⟨vs, rfl, hS⟩ := h
 obtain ⟨a, cap, rfl⟩ := hS.sl
 obtain ⟨vm, rfl, hMk⟩ := hr
 obtain ⟨am, cm, rfl⟩ := hMk.sl
 obtain ⟨ax, cx, rfl, hxc⟩ := hx.get
 have HXC := hidP hxc
 clear hS hok hou hMk hx hxc
 have hnot : ∀ (x : Bool) (w : World), (Op.unary .not (.bool x)).run Try.prog w = .ok (.bool (!x)) w := fun _ _ => rfl
 have HU : Hid (Below w.heap.size w (((w.alloc (.cells #[.int .i64 m.1, .slice a m.2.length cap] 24)).alloc (.cells #[.int .i64 r.1, .slice am r.2.length cm] 28)).alloc (.cells #[.int .i64 0, .slice none 0 0] 28))) := by show Below _ _ _; go_grown
 by_cases hc : chkA m r = 0
 ·have HC := hidP hc
  obtain ⟨hf, hrun⟩ := chk_ok hc
  have HF := hidP hf
  have h60 : m.2.length ≤ 60 := by obtain ⟨z, l⟩ := m; exact (right_size hf).1
  have hfd := runB_fed hrun
  by_cases ho : 12 < r.1 + (x.length : Int)
  ·have HANS : Hid (FedAns m r x (0, []) 5) := .inr (.inl ⟨hc, ho, rfl, rfl⟩)
   clear hc hf hrun
   go_enter Try.func16, Try.ntmps16
   go_wp2_with (first
    | (go_at_call 35; (with_reducible refine (check_any _ _ m r _ (HM.out.later HU.out (Nat.le_refl _)) HK.out (HR.out.later HU.out (Nat.le_refl _)) HO.out 0 HC.out).mono ?_); rintro e w1 ⟨rfl, hb⟩; obtain ⟨s1, b1, b2, b3, hb1⟩ := boxedThree hb (by simp); have HB1 := hidP hb1; have c2 := b2.cell 0 (v := .int .i64 r.1) rfl; have y0 := b3.cell 0 (v := .int .i64 0) rfl; have y1 := b3.cell 1 (v := .slice none 0 0) rfl; have t0 := b3.fz 0; have t1 := b3.fz 1; have z2 : w.heap.size + 2 < w1.heap.size := b3.lt; have z1 : w.heap.size + 1 < w1.heap.size := b2.lt; clear hb hb1 b1 b2 b3))
   exact bodyPost_ret (v := .tuple #[.agg #[.int .i64 0, .slice none 0 0], .int .i64 5]) (by simp [results, Try.results16, go_sem, *]) rfl ⟨(0, []), 5, HANS.out, _, rfl, ⟨_, rfl, [], .inl ⟨rfl, rfl⟩, rfl, by simp⟩, by have h9 := HB1.out; go_grown⟩
  ·have ho' : r.1 + (x.length : Int) ≤ 12 := by omega
   by_cases hlb : labB x = true
   ·have HLB := hidP hlb
    have HTF := hidP (tblT_facts hrun)
    have HRE := hidP (runB_el' hrun)
    have hrl : r.2.length ≤ 60 := by
     simp only [runB, Bool.and_eq_true] at hrun
     exact Nat.le_trans (risB_few hrun.1.2) h60
    have HANS : Hid (∀ res, FedT m (tblT r.2) x res → FedAns m r x (match res with | none => (0, []) | some K => (r.1 + x.length, ordL m.2.length K)) (match res with | none => 4 | some _ => 0)) := fun res hres => .inr (.inr (.inr ⟨hc, ho, hlb, res, hres, rfl, rfl⟩))
    have HDR : Hid (∀ i, i < x.length → x.drop i = el x i :: x.drop (i + 1)) := fun i hi => by rw [List.drop_eq_getElem_cons hi, el_get hi]
    have HDE : Hid (x.drop x.length = []) := List.drop_length
    have HD0 : Hid (x.drop 0 = x) := rfl
    clear hc hf hrun hlb ho
    go_enter Try.func16, Try.ntmps16
    go_wp2_with (first
     | (go_at_call 35; (with_reducible refine (check_any _ _ m r _ (HM.out.later HU.out (Nat.le_refl _)) HK.out (HR.out.later HU.out (Nat.le_refl _)) HO.out 0 HC.out).mono ?_); rintro e w1 ⟨rfl, hb⟩; obtain ⟨s1, b1, b2, b3, hb1⟩ := boxedThree hb (by simp); have HB1 := hidP hb1; have BM1 := hidP b1; have BR1 := hidP b2; have BT1 := hidP b3; have c2 := b2.cell 0 (v := .int .i64 r.1) rfl; have c3 := b2.cell 1 (v := .slice am r.2.length cm) rfl; have z2 : w.heap.size + 2 < w1.heap.size := b3.lt; have z1 : w.heap.size + 1 < w1.heap.size := b2.lt; clear hb hb1 b1 b2 b3)
     | (go_at_call 36; (with_reducible refine (areLabels_any _ x _ (HX.out.later HB1.out (Nat.le_refl _)) hxl).mono ?_); rintro e w2 ⟨rfl, rfl⟩; rw [HLB.out])
     | (go_at_call 37; (with_reducible refine (marksOf_any _ r _ (HR.out.later HB1.out (Nat.le_refl _)) (by omega) (fun j hj => by have h9 := HRE.out j hj; omega)).mono ?_); rintro e w3 ⟨mk, kk, rfl, hm3, hb3⟩; have HM3 := hidP hm3; have HB3 : Hid (Below w.heap.size w w3) := HB1.out.trans (hb3.mono HB1.out.size); have BM3 := hidP (BM1.out.below hb3 BM1.out.lt); have BT3 := hidP (BT1.out.below hb3 BT1.out.lt); clear hm3 hb3))
    go_loopw [10, 38] (fun s10 s38 wr => ∃ (i mk : Nat) (K : Tbl) (kk : List Int), i ≤ x.length ∧ s10 = .map (some mk) ∧ s38 = .int .i64 i ∧ Hid (MpK wr mk K kk) ∧ Hid (DomT m.2.length K) ∧ Hid (BndT 1000000000 (800 + 61 * i) K) ∧ Hid (∀ res, FedT m K (x.drop i) res → FedT m (tblT r.2) x res) ∧ Hid (Blk wr w.heap.size #[.int .i64 m.1, .slice a m.2.length cap] 24) ∧ Hid (Blk wr (w.heap.size + 2) #[.int .i64 0, .slice none 0 0] 28) ∧ Hid (Below w.heap.size w wr)) (fun _ i _ => x.length - (intOf i).toNat)
    case atStart => exact ⟨0, mk, _, kk, Nat.zero_le _, rfl, rfl, HM3, HTF.out.1, (by show BndT _ _ _; simpa using HTF.out.2), (fun res hres => hres), BM3, BT3, HB3⟩
    case round =>
     obtain ⟨i, mk2, K, kk2, hi, rfl, rfl, hMK, hDK, hBK, hst, bM, bT, hb⟩ := hrel
     have hL12 : x.length ≤ 12 := by omega
     have d0 := bM.out.cell 0 (v := .int .i64 m.1) rfl
     have d1 := bM.out.cell 1 (v := .slice a m.2.length cap) rfl
     by_cases hit : i < x.length
     ·have hi0 : (0 : Int) ≤ (i : Int) := by omega
      have hi1 : (i : Int) < (x.length : Int) := by omega
      obtain ⟨b, off, rfl, hbl, q0⟩ := HXC.out i hit
      have q0 := (hb.out.cell (p := ⟨b, off + i, none⟩) hbl).trans q0
      have HDRi := hidP (HDR.out i hit)
      clear hbl
      generalize el x i = lab at *
      go_wp2_with (first
       | (go_at_call 38; (with_reducible refine (behind_any _ m mk2 K kk2 lab 1000000000 (800 + 61 * i) _ (HM.out.later hb.out (Nat.le_refl _)) HK.out HF.out hMK.out hDK.out hBK.out (by omega) (by omega)).mono ?_); rintro e w4 ⟨mk4, K4, kk4, rfl, hm4, hst4, hd4, hb4, hbe4⟩; have HM4 := hidP hm4; have HS4 := hidP hst4; have HD4 := hidP hd4; have HBN4 := hidP hb4; have HB4 : Hid (Below w.heap.size w w4) := hb.out.trans (hbe4.mono hb.out.size); have BM4 := hidP (bM.out.below hbe4 bM.out.lt); have BT4 := hidP (bT.out.below hbe4 bT.out.lt); clear hm4 hst4 hd4 hb4 hbe4)
       | (go_at_call 29; (with_reducible refine (haveOver_any mk4 K4 kk4 _ HM4.out).mono ?_); rintro e w5 ⟨ov, rfl, hov, hb5⟩; have HOV : Hid (ov = true ↔ OverT K4) := hov; have HB5 : Hid (Below w.heap.size w w5) := HB4.out.trans (hb5.mono HB4.out.size); have HM5 := hidP (HM4.out.below hb5); have BM5 := hidP (BM4.out.below hb5 BM4.out.lt); have BT5 := hidP (BT4.out.below hb5 BT4.out.lt); have y0 := BT5.out.cell 0 (v := .int .i64 0) rfl; have y1 := BT5.out.cell 1 (v := .slice none 0 0) rfl; have t0 := BT5.out.fz 0; have t1 := BT5.out.fz 1; have z2 : w.heap.size + 2 < w5.heap.size := BT5.out.lt; clear hov hb5; rcases ov with _ | _))
      ·have HNO : Hid (¬ OverT K4) := by show ¬ _; simpa using HOV.out
       have HBN5 : Hid (BndT 1000000000 (800 + 61 * (i + 1)) K4) := fun q y hy => by
        have h1 := HBN4.out q y hy
        have h2 : ¬ 1000000000 < y.1 := fun h => HNO.out ⟨q, y, hy, h⟩
        omega
       have HST5 : Hid (∀ res, FedT m K4 (x.drop (i + 1)) res → FedT m (tblT r.2) x res) := fun res hres => by
        obtain ⟨O, o1, o2⟩ := HS4.out
        refine hst.out res ?_
        rw [HDRi.out]
        exact .on o1 o2 HNO.out hres
       go_roundw
       case rel => exact ⟨i + 1, mk4, K4, kk4, by omega, rfl, by go_num, HM5, HD4, HBN5, HST5, BM5, BT5, HB5⟩
       case measure => simp [intOf]; omega
      ·have HFT : Hid (FedT m (tblT r.2) x none) := by
        obtain ⟨O, o1, o2⟩ := HS4.out
        refine hst.out none ?_
        rw [HDRi.out]
        exact .over o1 o2 (by simpa using HOV.out)
       exact bodyPost_ret (v := .tuple #[.agg #[.int .i64 0, .slice none 0 0], .int .i64 4]) (by simp [results, Try.results16, go_sem, *]) rfl ⟨(0, []), 4, HANS.out none HFT.out, _, rfl, ⟨_, rfl, [], .inl ⟨rfl, rfl⟩, rfl, by simp⟩, by have h9 := HB5.out; go_grown⟩
     ·have hil : i = x.length := by omega
      have hnl : ¬ (i : Int) < (x.length : Int) := by omega
      have HFT : Hid (FedT m (tblT r.2) x (some K)) := hst.out _ (by rw [hil, HDE.out]; exact .nil K)
      have HSZ : Hid (∀ q k, K q = some k → k.2.length ≤ 1000000) := fun q k hk => by have h9 := (hBK.out q k hk).2.2; omega
      go_wp2_with (first
       | (go_at_call 30; (with_reducible refine (inOrder_any _ m mk2 K kk2 _ (HM.out.later hb.out (Nat.le_refl _)) h60 hMK.out HSZ.out).mono ?_); rintro e w6 ⟨v6, rfl, hm6, hb6⟩; have HM6 := hidP hm6; obtain ⟨a6, c6, rfl⟩ := hm6.sl; have HB6 : Hid (Below w.heap.size w w6) := hb.out.trans (hb6.mono hb.out.size); have BT6 := hidP (bT.out.below hb6 bT.out.lt); have x0 := BT6.out.cell 0 (v := .int .i64 0) rfl; have x1 := BT6.out.cell 1 (v := .slice none 0 0) rfl; have tt0 := BT6.out.fz 0; have tt1 := BT6.out.fz 1; have z6 : w.heap.size + 2 < w6.heap.size := BT6.out.lt; have zr6 : w.heap.size + 2 < wr.heap.size := bT.out.lt; clear hm6 hb6))
      exact bodyPost_ret (v := .tuple #[.agg #[.int .i64 (r.1 + x.length), .slice a6 (ordL m.2.length K).length c6], .int .i64 0]) (by simp [results, Try.results16, go_sem, *]) rfl ⟨_, 0, HANS.out (some K) HFT.out, _, rfl, ⟨_, rfl, ((HM6.out.set (by show w.heap.size + 2 < _; omega) _).set (by show w.heap.size + 2 < _; omega) _).marks⟩, by have h9 := HB6.out; go_grown⟩
   ·have hl0 : labB x = false := by simpa using hlb
    have HLB := hidP hl0
    have HANS : Hid (FedAns m r x (0, []) 2) := .inr (.inr (.inl ⟨hc, ho, hl0, rfl, rfl⟩))
    clear hc hf hrun hlb hl0
    go_enter Try.func16, Try.ntmps16
    go_wp2_with (first
     | (go_at_call 35; (with_reducible refine (check_any _ _ m r _ (HM.out.later HU.out (Nat.le_refl _)) HK.out (HR.out.later HU.out (Nat.le_refl _)) HO.out 0 HC.out).mono ?_); rintro e w1 ⟨rfl, hb⟩; obtain ⟨s1, b1, b2, b3, hb1⟩ := boxedThree hb (by simp); have HB1 := hidP hb1; have c2 := b2.cell 0 (v := .int .i64 r.1) rfl; have y0 := b3.cell 0 (v := .int .i64 0) rfl; have y1 := b3.cell 1 (v := .slice none 0 0) rfl; have t0 := b3.fz 0; have t1 := b3.fz 1; have z2 : w.heap.size + 2 < w1.heap.size := b3.lt; have z1 : w.heap.size + 1 < w1.heap.size := b2.lt; clear hb hb1 b1 b2 b3)
     | (go_at_call 36; (with_reducible refine (areLabels_any _ x _ (HX.out.later HB1.out (Nat.le_refl _)) hxl).mono ?_); rintro e w2 ⟨rfl, rfl⟩; rw [HLB.out]))
    exact bodyPost_ret (v := .tuple #[.agg #[.int .i64 0, .slice none 0 0], .int .i64 2]) (by simp [results, Try.results16, go_sem, *]) rfl ⟨(0, []), 2, HANS.out, _, rfl, ⟨_, rfl, [], .inl ⟨rfl, rfl⟩, rfl, by simp⟩, by have h9 := HB1.out; go_grown⟩
 ·have HANS : Hid (FedAns m r x (0, []) (chkA m r)) := .inl ⟨hc, rfl, rfl⟩
  generalize hq : chkA m r = q at *
  have HQ := hidP hq
  clear hq
  go_enter Try.func16, Try.ntmps16
  go_wp2_with (first
   | (go_at_call 35; (with_reducible refine (check_any _ _ m r _ (HM.out.later HU.out (Nat.le_refl _)) HK.out (HR.out.later HU.out (Nat.le_refl _)) HO.out q HQ.out).mono ?_); rintro e w1 ⟨rfl, hb⟩; obtain ⟨s1, b1, b2, b3, hb1⟩ := boxedThree hb (by simp); have HB1 := hidP hb1; have y0 := b3.cell 0 (v := .int .i64 0) rfl; have y1 := b3.cell 1 (v := .slice none 0 0) rfl; have t0 := b3.fz 0; have t1 := b3.fz 1; have z2 : w.heap.size + 2 < w1.heap.size := b3.lt; clear hb hb1 b1 b2 b3))
  exact bodyPost_ret (v := .tuple #[.agg #[.int .i64 0, .slice none 0 0], .int .i64 q]) (by simp [results, Try.results16, go_sem, *]) rfl ⟨(0, []), q, HANS.out, _, rfl, ⟨_, rfl, [], .inl ⟨rfl, rfl⟩, rfl, by simp⟩, by have h9 := HB1.out; go_grown⟩
end Go.Proofs.Ytkeeiihaijhdoaa.Sm
namespace Go.Proofs.Ytkeeiihaijhdoaa.Wt
open Go.ChangeShapes Go.WideShapes Go.ChangeAt Go.RowKit
open Go.Proofs.Ytkeeiihaijhdoaa.Pl
set_option linter.unusedVariables false
abbrev Nd := Int × Bool × List Ar
abbrev Rw := Int × List Nd
def encN (s : Int × Bool × Value) : List Value := [.int .i64 s.1, .bool s.2.1, s.2.2]
def Nds (w : World) (v : Value) (l : List Nd) : Prop :=
 ∃ vs : List (Int × Bool × Value), Row 3 encN w v vs ∧ vs.length = l.length ∧ ∀ j, j < l.length → (el vs j).1 = (el l j).1 ∧ (el vs j).2.1 = (el l j).2.1 ∧ Arcs w (el vs j).2.2 (el l j).2.2
theorem Nds.later {w w' : World} {v : Value} {l : List Nd} (h : Nds w v l) {B : Nat} (hb : Below B w w') (hB : w.heap.size ≤ B) : Nds w' v l := by
 obtain ⟨vs, h1, h2, h3⟩ := h
 exact ⟨vs, Row.later h1 hb hB, h2, fun j hj => ⟨(h3 j hj).1, (h3 j hj).2.1, (h3 j hj).2.2.later hb hB⟩⟩
theorem Nds.get {w : World} {v : Value} {l : List Nd} (h : Nds w v l) : ∃ a cap, v = .slice a l.length cap ∧ ∀ j, j < l.length → ∃ b off va, a = some ⟨b, off, none⟩ ∧ b < w.heap.size ∧ w.cell? ⟨b, off + j * 3, none⟩ = some (.int .i64 (el l j).1) ∧ w.cell? ⟨b, off + j * 3 + 1, none⟩ = some (.bool (el l j).2.1) ∧ w.cell? ⟨b, off + j * 3 + 2, none⟩ = some va ∧ Arcs w va (el l j).2.2 := by
 obtain ⟨vs, h1, h2, h3⟩ := h
 by_cases hz : 0 < l.length
 ·obtain ⟨b, off, cap, hv, hb, hc⟩ := Row.plain h1 (fun x => by simp [encN]) (by omega)
  refine ⟨_, cap, by rw [← h2]; exact hv, fun j hj => ⟨b, off, (el vs j).2.2, rfl, hb, ?_, ?_, hc j (by omega) 2 _ rfl, (h3 j hj).2.2⟩⟩
  ·rw [← (h3 j hj).1]; exact hc j (by omega) 0 _ rfl
  ·rw [← (h3 j hj).2.1]; exact hc j (by omega) 1 _ rfl
 ·obtain ⟨a, cap, hv⟩ := Row.sl h1
  exact ⟨a, cap, by rw [← h2]; exact hv, fun j hj => by omega⟩
def RawV (w : World) (v : Value) (m : Rw) : Prop := ∃ vs, v = .agg #[.int .i64 m.1, vs] ∧ Nds w vs m.2
theorem RawV.later {w w' : World} {v : Value} {m : Rw} (h : RawV w v m) {B : Nat} (hb : Below B w w') (hB : w.heap.size ≤ B) : RawV w' v m := by
 obtain ⟨vs, h1, h2⟩ := h
 exact ⟨vs, h1, h2.later hb hB⟩
def okR (m : Rw) : Prop := m.2.length * 40 ≤ 140737488351232 ∧ ∀ j, j < m.2.length → (el m.2 j).2.2.length * 32 ≤ 140737488351232
def wfR (m : Rw) : Prop := (Lit.int .i64 m.1).wf = true ∧ ∀ s ∈ m.2, (Lit.int .i64 s.1).wf = true ∧ ∀ a ∈ s.2.2, wfA a
section
variable {H : Type} {enc : TypeId × Value → H} {w : World} {base : Nat} {sp : Nat → Bool} {held : Bool}
theorem open_raw {fuel : Nat} {v0 v1 : Value} {y0 y1 : DataW H × List MemPlace}
  (h0 : DataW.trod enc Try.prog w base sp held fuel 3 [v0] = some y0) (h1 : DataW.trod enc Try.prog w base sp held fuel 44 [v1] = some y1) (hf : Fits Try.prog 44 y1.1) :
  ∃ m : Rw, RawV w (.agg #[v0, v1]) m ∧ okR m ∧ wfR m := by
 obtain ⟨z, e0, _, hz⟩ := DataW.trod_int Try.underlying3 h0
 simp at e0
 subst e0
 rcases open_rows Try.underlying44 Try.underlying82 (by kernel_rfl) (by kernel_rfl) h1 with ⟨hv, hx⟩ | ⟨a, len, cap, n, V, Y, rest, hv, hm, hl, hx, hc⟩
 ·refine ⟨(z, []), ⟨v1, rfl, [], .inl ⟨hv, rfl⟩, rfl, by simp⟩, ⟨by simp, by simp⟩, hz, by simp⟩
 ·have key : ∀ i, i < len → ∃ q : Value × Nd, w.cell? (a.add (i * 3)) = some (.int .i64 q.2.1) ∧ w.cell? (a.add (i * 3 + 1)) = some (.bool q.2.2.1) ∧ w.cell? (a.add (i * 3 + 2)) = some q.1 ∧ Arcs w q.1 q.2.2.2 ∧ (Lit.int .i64 q.2.1).wf = true ∧ (∀ a ∈ q.2.2.2, wfA a) ∧ q.2.2.2.length * 32 ≤ 140737488351232 := by
   intro i hi
   obtain ⟨c0, t0⟩ := hc i hi 0 _ rfl
   obtain ⟨c1, t1⟩ := hc i hi 1 _ rfl
   obtain ⟨c2, t2⟩ := hc i hi 2 _ rfl
   obtain ⟨q0, e0, _, w0⟩ := DataW.trod_int Try.underlying3 t0
   obtain ⟨q1, e1, _⟩ := DataW.trod_bool Try.underlying4 t1
   simp at e0 e1
   rw [e0] at c0
   rw [e1] at c1
   have hfi : Fits Try.prog 80 (Y i 2).1 := by
    rw [hx] at hf
    have hm : (.agg ((List.range 3).map fun f => (Y i f).1) : DataW H) ∈ (List.range len).map fun i => (.agg ((List.range 3).map fun f => (Y i f).1) : DataW H) := List.mem_map.2 ⟨i, List.mem_range.2 hi, rfl⟩
    exact (hf.elem Try.underlying44 hm).field Try.underlying82 (f := 2) rfl rfl
   obtain ⟨l, g1, g2, g3⟩ := open_arcs Try.underlying80 Try.underlying83 (by kernel_rfl) (by kernel_rfl) Try.underlying3 Try.underlying3 Try.underlying3 Try.underlying3 (by kernel_rfl) t2 hfi
   exact ⟨(V i 2, q0, q1, l), c0, c1, c2, g1, w0, g2, g3⟩
  obtain ⟨q, hq⟩ := Go.Deep.choose_lt key
  have hlen : ((List.range len).map fun i => (q i).2).length = len := by simp
  have hlen2 : ((List.range len).map fun i => ((q i).2.1, (q i).2.2.1, (q i).1)).length = len := by simp
  refine ⟨(z, (List.range len).map fun i => (q i).2), ⟨v1, rfl, (List.range len).map fun i => ((q i).2.1, (q i).2.2.1, (q i).1), .inr ⟨a, cap, by rw [hlen2]; exact hv, ?_⟩, by simp, ?_⟩, ⟨?_, ?_⟩, hz, ?_⟩
  ·intro j hj i u hu
   rw [hlen2] at hj
   rw [el_range_map _ hj] at hu
   obtain ⟨g0, g1, g2, _⟩ := hq j hj
   match i, hu with
   | 0, hu => simp [encN] at hu; subst hu; exact g0
   | 1, hu => simp [encN] at hu; subst hu; exact g1
   | 2, hu => simp [encN] at hu; subst hu; exact g2
   | i + 3, hu => simp [encN] at hu
  ·intro j hj
   rw [hlen] at hj
   rw [el_range_map _ hj, el_range_map _ hj]
   exact ⟨rfl, rfl, (hq j hj).2.2.2.1⟩
  ·show ((List.range len).map fun i => (q i).2).length * 40 ≤ _
   rw [hlen]
   rw [hx] at hf
   have := hf.len Try.underlying44
   have hby : Try.prog.bytesOf 82 = 40 := by kernel_rfl
   rw [hby] at this
   simpa [reachBytes] using this
  ·intro j hj
   have hj' : j < len := by rw [← hlen]; exact hj
   show (el ((List.range len).map fun i => (q i).2) j).2.2.length * 32 ≤ _
   rw [el_range_map _ hj']
   exact (hq j hj').2.2.2.2.2.2
  ·intro s hs
   simp at hs
   obtain ⟨i, hi, rfl⟩ := hs
   exact ⟨(hq i hi).2.2.2.2.1, (hq i hi).2.2.2.2.2.1⟩
end
end Go.Proofs.Ytkeeiihaijhdoaa.Wt
namespace Go.Proofs.Ytkeeiihaijhdoaa.Pl
def pkR (n many : Int) : Int := (if n < 0 then -(n + 1) else n) % many
theorem pkR_bd (n many : Int) (h : 0 < many) : 0 ≤ pkR n many ∧ pkR n many < many := by
 unfold pkR
 exact ⟨Int.emod_nonneg _ (by omega), Int.emod_lt_of_pos _ h⟩
def arM (n : Nat) (full : Bool) (e : Ar) : Ar :=
 (if (full && decide (pkR e.1 3 = 0) && decide (pkR e.2.1 3 = 0)) = true then 1 else pkR e.1 3, pkR e.2.1 3, pkR e.2.2.1 10, pkR e.2.2.2 n)
def stM (n : Nat) (full : Bool) (x : Int × Bool × List Ar) : St := (if x.2.1 = true then pkR x.1 10 else 1000000001, (x.2.2.take 4).map (arM n full))
def sizeM (r : Int × List (Int × Bool × List Ar)) (states : Nat) : Nat := min (max r.2.length 1) states
def statesM (r : Int × List (Int × Bool × List Ar)) (n : Nat) (full : Bool) : List St := (List.range n).map fun q => if r.2.length ≤ q then (0, []) else stM n full (el r.2 q)
def madeM (r : Int × List (Int × Bool × List Ar)) (states : Nat) (full : Bool) : Mc := (pkR r.1 (sizeM r states), statesM r (sizeM r states) full)
theorem statesM_length (r : Int × List (Int × Bool × List Ar)) (n : Nat) (full : Bool) : (statesM r n full).length = n := by simp [statesM]
theorem arM_right {n : Nat} (hn : 0 < n) (full : Bool) (e : Ar) : arcB n (arM n full e) = true := by
 have h1 := pkR_bd e.1 3 (by omega)
 have h2 := pkR_bd e.2.1 3 (by omega)
 have h3 := pkR_bd e.2.2.1 10 (by omega)
 have h4 := pkR_bd e.2.2.2 n (by omega)
 simp only [arcB, arM, inB, Bool.and_eq_true, decide_eq_true_eq]
 refine ⟨⟨⟨?_, by omega⟩, by omega⟩, by omega⟩
 split <;> omega
theorem stM_right {n : Nat} (hn : 0 < n) (full : Bool) (x : Int × Bool × List Ar) : stB n (stM n full x) = true := by
 have h1 := pkR_bd x.1 10 (by omega)
 unfold stB stM
 simp only [Bool.and_eq_true, List.all_eq_true, List.mem_map]
 refine ⟨?_, ?_⟩
 ·split
  ·simp only [finB, inB, Bool.or_eq_true, Bool.and_eq_true, decide_eq_true_eq]; omega
  ·rfl
 ·rintro a ⟨e, _, rfl⟩
  exact arM_right hn full e
theorem stM_few (n : Nat) (full : Bool) (x : Int × Bool × List Ar) : (stM n full x).2.length ≤ 4 := by simp [stM]; omega
theorem madeM_right (r : Int × List (Int × Bool × List Ar)) (states : Nat) (hs : 0 < states) (hs8 : states ≤ 8) (full : Bool) : faultM (madeM r states full) = 0 := by
 have hn : 0 < sizeM r states := by unfold sizeM; omega
 have hn8 : sizeM r states ≤ 8 := by unfold sizeM; omega
 unfold madeM
 generalize sizeM r states = n at *
 have hl := statesM_length r n full
 have hz := pkR_bd r.1 n (by omega)
 have hk : ∀ s ∈ statesM r n full, stB n s = true ∧ s.2.length ≤ 4 := fun s hs => by
  unfold statesM at hs
  simp only [List.mem_map] at hs
  obtain ⟨q, _, rfl⟩ := hs
  split
  ·exact ⟨by simp [stB, finB, inB], by simp⟩
  ·exact ⟨stM_right hn full _, stM_few n full _⟩
 have ha : arcN (statesM r n full) ≤ (statesM r n full).length * 4 := arcN_le (fun j hj => (hk _ (el_mem hj)).2)
 refine faultM_ok ?_ ?_
 ·simp only [sizeB, Bool.and_eq_true, decide_eq_true_eq]
  rw [hl] at ha ⊢
  omega
 ·simp only [rangeB, inB, Bool.and_eq_true, decide_eq_true_eq, List.all_eq_true]
  rw [hl]
  exact ⟨by omega, fun s hs => (hk s hs).1⟩
end Go.Proofs.Ytkeeiihaijhdoaa.Pl
namespace Go.Proofs.Ytkeeiihaijhdoaa.Wt
open Go.ChangeShapes Go.WideShapes Go.ChangeAt Go.RowKit
open Go.Proofs.Ytkeeiihaijhdoaa.Pl
set_option linter.unusedVariables false
theorem picked_R (n many : Int) (w : World) (hn : (Lit.int .i64 n).wf = true) (hm : 0 < many) (hm2 : many ≤ 9223372036854775807) (r : Int) (hr : pkR n many = r) :
  Calls Try.prog 23 #[.int .i64 n, .int .i64 many] w fun e w' => e = .returned (.int .i64 r) ∧ w = w' := by
 subst hr
 obtain ⟨b1, b2⟩ := bounds_i64 hn
 clear hn
 by_cases h : n < 0
 ·have HP : Hid (pkR n many = (-(n + 1)) % many) := by show _ = _; simp [pkR, h]
  go_enter Try.func23, Try.ntmps23
  go_wp2
  go_ret
  exact ⟨ret_intK (by rw [HP.out, ← Int.neg_tmod, Int.tmod_eq_emod_of_nonneg (by omega)]), rfl⟩
 ·have HP : Hid (pkR n many = n % many) := by show _ = _; simp [pkR, h]
  go_enter Try.func23, Try.ntmps23
  go_wp2
  go_ret
  exact ⟨ret_intK (by rw [HP.out]), rfl⟩
end Go.Proofs.Ytkeeiihaijhdoaa.Wt
