/- The program: which states can be reached. -/
import Derived.Test.YtfhjncpakgailaaGreatDoorPaA
import Derived.Test.YtfhjncpakgailaaGreatDoorPah
import Derived.Test.YtfhjncpakgailaaGreatDoorPab
namespace Go.Proofs.YtfhjncpakgailaaGreatDoor.Wt
open Go.ChangeShapes Go.WideShapes Go.ChangeAt Go.RowKit
open Go.Proofs.YtfhjncpakgailaaGreatDoor.Pl
set_option linter.unusedVariables false
set_option linter.unusedSimpArgs false
theorem own_num1 (w : World) (x : Int) (base : Nat) (hb : base ≤ w.heap.size) (e : TypeId) : (w.alloc (.cells #[.int .i64 x] e)).ownsRow base e 1 (.slice (some ⟨w.heap.size, 0, none⟩) 1 1) [x].length ([x].flatMap encI1) := by
 refine ⟨rfl, .inr ⟨w.heap.size, 1, #[.int .i64 x], rfl, hb, Blk.made _ _ _, by simp, by unfold maxLen; omega, rfl, rfl⟩⟩
theorem startL_neg {z : Int} (h : z < 0) : startL z = [] := by unfold startL; rw [if_pos h]
theorem startL_pos {z : Int} (h : ¬ z < 0) : startL z = [z] := by unfold startL; rw [if_neg h]
theorem starts_any (z : Int) (vs : Value) (w : World) :
  Calls Tryz.prog 146 #[.agg #[.int .i64 z, vs]] w fun e w' => ∃ v', e = .returned v' ∧ w'.ownsRow w.heap.size 3 1 v' (startL z).length ((startL z).flatMap encI1) ∧ Below w.heap.size w w' := by
 by_cases hz : z < 0
 ·have HE : Hid (startL z = []) := startL_neg hz
  go_enter Tryz.func146, Tryz.ntmps146
  go_wp2
  go_ret
  exact ⟨_, rfl, by rw [HE.out]; exact World.ownsRow_nil _ _ _ _, by go_grown⟩
 ·have HE : Hid (startL z = [z]) := startL_pos hz
  go_enter Tryz.func146, Tryz.ntmps146
  go_wp2
  go_ret
  refine ⟨_, rfl, ?_, by go_grown⟩
  rw [HE.out]
  have h := own_num1 (w.alloc (.cells #[.int .i64 z, vs] 29)) z w.heap.size (by simp) 3
  simp only [World.size_alloc] at h
  exact h
theorem followed_any (z : Int) (vs : Value) (w : World) :
  Calls Tryz.prog 147 #[.agg #[.int .i64 z, vs]] w fun e w' => e = .returned (.func (.func 171) #[] #[.pointer (some ⟨w.heap.size, 0, none⟩)]) ∧ Blk w' w.heap.size #[.int .i64 z, vs] 29 ∧ Below w.heap.size w w' := by
 go_enter Tryz.func147, Tryz.ntmps147
 go_wp2
 go_ret
 exact ⟨rfl, Blk.made _ _ _, by go_grown⟩
theorem toL_take {ar : List Ar} {j : Nat} (h : j < ar.length) : (ar.take (j + 1)).map (fun a => a.2.2.2) = (ar.take j).map (fun a => a.2.2.2) ++ [(el ar j).2.2.2] := by rw [take_el h]; simp
set_option maxRecDepth 100000 in
set_option maxHeartbeats 1600000 in
theorem leads_any (z : Int) (vs : Value) (l : List St) (w : World) (h : Mach w (.agg #[.int .i64 z, vs]) (z, l)) (hok : okM (z, l)) (B : Nat) (hB : Blk w B #[.int .i64 z, vs] 29) (q : Nat) (hq : q < l.length) :
  Calls Tryz.prog 171 #[.int .i64 (q : Int), .pointer (some ⟨B, 0, none⟩)] w fun e w' => ∃ v', e = .returned v' ∧ Nums w' v' (toL l q) ∧ Below w.heap.size w w' := by
 obtain ⟨i1, hi1, hy0, hy1, hy2⟩ := info_parts infoIntS
 obtain ⟨vs', hvs, hS⟩ := h
 simp only [Value.agg.injEq, Array.mk.injEq, List.cons.injEq, and_true, true_and] at hvs
 subst hvs
 obtain ⟨a, cap, rfl, hc⟩ := hS.get
 obtain ⟨b, off, va, rfl, hbl, g0, g1, gA⟩ := hc q hq
 obtain ⟨a2, cap2, rfl, hga⟩ := gA.get
 have hL32 := hok.2 q hq
 have HGA : Hid (∀ j, j < (el l q).2.length → ∃ b off, a2 = some ⟨b, off, none⟩ ∧ b < w.heap.size ∧ w.cell? ⟨b, off + j * 4, none⟩ = some (.int .i64 (el (el l q).2 j).1) ∧ w.cell? ⟨b, off + j * 4 + 1, none⟩ = some (.int .i64 (el (el l q).2 j).2.1) ∧ w.cell? ⟨b, off + j * 4 + 2, none⟩ = some (.int .i64 (el (el l q).2 j).2.2.1) ∧ w.cell? ⟨b, off + j * 4 + 3, none⟩ = some (.int .i64 (el (el l q).2 j).2.2.2)) := hga
 have c1 := hB.cell 1 (v := .slice (some ⟨b, off, none⟩) l.length cap) rfl
 have q0 : (0 : Int) ≤ (q : Int) := by omega
 have q1 : (q : Int) < (l.length : Int) := by omega
 have HTL : Hid (toL l q = (el l q).2.map (fun a => a.2.2.2)) := rfl
 clear hS hc gA hga hB g0 hok
 simp only at hL32
 generalize l.length = n at *
 generalize (el l q).2 = ar at *
 generalize hL : ar.length = L at *
 have HL : Hid (ar.length = L) := hL
 clear hL
 go_enter Tryz.func171, Tryz.ntmps171
 go_wp2
 go_loopw [4, 14] (fun s4 i wr => ∃ (j : Nat) (vo : Value), j ≤ L ∧ vo = s4 ∧ i = .int .i64 j ∧ Hid (wr.ownsRow w.heap.size 3 1 vo ((ar.take j).map (fun a => a.2.2.2)).length (((ar.take j).map (fun a => a.2.2.2)).flatMap encI1)) ∧ Hid (Below w.heap.size w wr)) (fun _ i _ => L - (intOf i).toNat)
 case atStart => exact ⟨0, _, Nat.zero_le _, rfl, rfl, World.ownsRow_nil _ _ _ _, Below.refl _ _⟩
 case round =>
  obtain ⟨j, vo, hj, rfl, rfl, hown, hb⟩ := hrel
  by_cases hjL : j < L
  ·obtain ⟨b3, off3, rfl, hb3l, e0, e1, e2, e3⟩ := HGA.out j hjL
   have e0 := (hb.out.cell (p := ⟨b3, off3 + j * 4, none⟩) hb3l).trans e0
   have e1 := (hb.out.cell (p := ⟨b3, off3 + j * 4 + 1, none⟩) hb3l).trans e1
   have e2 := (hb.out.cell (p := ⟨b3, off3 + j * 4 + 2, none⟩) hb3l).trans e2
   have e3 := (hb.out.cell (p := ⟨b3, off3 + j * 4 + 3, none⟩) hb3l).trans e3
   have HT : Hid ((ar.take (j + 1)).map (fun a => a.2.2.2) = (ar.take j).map (fun a => a.2.2.2) ++ [(el ar j).2.2.2]) := toL_take (by rw [HL.out]; exact hjL)
   have hkl : ((ar.take j).map (fun a => a.2.2.2)).length ≤ L := by rw [List.length_map, List.length_take]; omega
   generalize (ar.take j).map (fun a => a.2.2.2) = ks at *
   generalize el ar j = c at *
   have hj0 : (0 : Int) ≤ (j : Int) := by omega
   have hj1 : (j : Int) < (L : Int) := by omega
   have HD : Hid ((wr.alloc (.cells #[.int .i64 c.1, .int .i64 c.2.1, .int .i64 c.2.2.1, .int .i64 c.2.2.2] 58)).ownsRow w.heap.size 3 1 vo ks.length (ks.flatMap encI1)) := hown.out.alloc _
   have HDB : Hid (Below w.heap.size w (wr.alloc (.cells #[.int .i64 c.1, .int .i64 c.2.1, .int .i64 c.2.2.1, .int .i64 c.2.2.2] 58))) := hb.out.alloc hb.out.size _
   go_wp2_with (first
    | (at_builtin; refine wpList_append_rows encI1_len (by decide) encI1_one rfl _ _ 25 rfl w.heap.size 3 i1 _ 8 Tryz.underlying25 hi1 hy0 hy1 hy2 rfl _ ks.length (ks.flatMap encI1) rfl (HD.out.alloc _) _ [c.2.2.2] rfl (by have h9 := oneRow (enc := encI1) (wr.alloc (.cells #[.int .i64 c.1, .int .i64 c.2.1, .int .i64 c.2.2.1, .int .i64 c.2.2.2] 58)) c.2.2.2 rfl 3; simp only [World.size_alloc] at h9; exact h9) (by simp; unfold maxLen; omega) (by simp; omega) (by have := HDB.out.size; simp at this ⊢; omega) ?_; intro v4 w4 ho4 hg4; obtain ⟨HO4, HB4, HZ4⟩ := snocFacts HD.out HDB.out.size ho4 hg4; clear ho4 hg4))
   go_roundw
   case rel => exact ⟨j + 1, _, by omega, rfl, by go_num, by rw [HT.out]; exact HO4, HDB.out.trans HB4.out⟩
   case measure => simp [intOf]; omega
  ·have hnl : ¬ (j : Int) < (L : Int) := by omega
   have HO : Hid (Nums wr vo (ar.map (fun a => a.2.2.2))) := by
    have h9 := hown.out
    rw [show j = ar.length by rw [HL.out]; omega, List.take_length] at h9
    exact Row.ofOwn encI1_len h9 rfl
   go_wp2
   go_ret
   exact ⟨_, rfl, by rw [HTL.out]; exact HO.out, hb.out⟩
theorem below_undrewS {B : Nat} {w w' : World} (h : Below B w.drew w') : Below B w w' := ⟨h.os, h.tape, h.output, h.size, h.block⟩
theorem st_arcs {l : List St} {j : Nat} (h : j < l.length) : (el l j).2.length ≤ arcN l := by
 have h1 := arcN_take h
 have h2 : arcN (l.take (j + 1)) ≤ arcN l := by
  conv => rhs; rw [← List.take_append_drop (j + 1) l, arcN_append]
  omega
 omega
def HeldB (B : Nat) (z : Int) (v : Value) (w : World) : Prop := Blk w B #[.int .i64 z, v] 29
theorem HeldB.two {B : Nat} {z : Int} {v : Value} {w : World} (h : HeldB B z v w) : w.cell? ⟨B, 0, none⟩ = some (.int .i64 z) ∧ w.cell? ⟨B, 1, none⟩ = some v := ⟨h.cell 0 rfl, h.cell 1 rfl⟩
set_option maxRecDepth 100000 in
set_option maxHeartbeats 1600000 in
theorem ahead_ok (v : Value) (m : Mc) (w : World) (h : Mach w v m) (hok : okM m) (hr : faultM m = 0) :
  Calls Tryz.prog 112 #[v] w fun e w' => ∃ v', e = .returned (.tuple #[v', .int .i64 0]) ∧ (∃ bs, Bools w' v' bs ∧ Least (AheadC m.1 m.2) m.2.length bs) ∧ Below w.heap.size w w' := by
 obtain ⟨z, l⟩ := m
 obtain ⟨vs, rfl, hS⟩ := h
 obtain ⟨a, cap, rfl⟩ := hS.sl
 have HM : Hid (Mach w (.agg #[.int .i64 z, .slice a l.length cap]) (z, l)) := ⟨_, rfl, hS⟩
 have HK : Hid (okM (z, l)) := hok
 have HR : Hid (faultM (z, l) = 0) := hr
 have hz := (faultM_zero hr).2
 simp only [rangeB, Bool.and_eq_true, inB, decide_eq_true_eq] at hz
 have HZ : Hid (-1 ≤ z ∧ z < (l.length : Int)) := ⟨hz.1.1, by show z < _; omega⟩
 clear hS hok hr hz
 simp only
 have hent := enters_of Tryz.func171 (by kernel_rfl) rfl
 generalize hn : l.length = n at *
 have HN : Hid (l.length = n) := hn
 clear hn
 go_enter Tryz.func112, Tryz.ntmps112
 go_wp2_with (first
  | (go_at_call 28; (with_reducible refine (coreCheck_any _ (z, l) _ (HM.out.later (B := w.heap.size) (by go_grown) (Nat.le_refl _)) HK.out 0 HR.out).mono ?_); rintro e w1 ⟨rfl, hb⟩; obtain ⟨s1, b1, hb1⟩ := boxed hb (by simp); have K0 : HeldB w.heap.size z (.slice a n cap) w1 := b1; have HB1 : Hid (Below w.heap.size w w1) := hb1; clear b1 hb1 hb))
 have K1 : HeldB w.heap.size z (.slice a n cap) w1.drew := K0.drew
 refine region_anyL (HeldB w.heap.size z (.slice a n cap)) 1000 (by kernel_rfl) ?_
 refine anyL_tk (i := 0) (v := ?v0_1) aZ0 (by kernel_rfl) ?y0_1 K1 ?r0_1
 case y0_1 => intro wx hx; obtain ⟨x0, x1⟩ := hx.two; go_simp; try (with_reducible rfl)
 simp only [Act.put, List.setIfInBounds_toArray, List.set_cons_zero, List.set_cons_succ]
 refine anyL_tk (i := 1) (v := ?v1_2) aZ1 (by kernel_rfl) ?y1_2 K1 ?r1_2
 case y1_2 => intro wx hx; obtain ⟨x0, x1⟩ := hx.two; go_simp; try (with_reducible rfl)
 simp only [Act.put, List.setIfInBounds_toArray, List.set_cons_zero, List.set_cons_succ]
 refine anyL_tk (i := 2) (v := ?v2_3) aZ2 (by kernel_rfl) ?y2_3 K1 ?r2_3
 case y2_3 => intro wx hx; obtain ⟨x0, x1⟩ := hx.two; go_simp; try (with_reducible rfl)
 simp only [Act.put, List.setIfInBounds_toArray, List.set_cons_zero, List.set_cons_succ]
 refine anyL_tk (i := 3) (v := ?v3_4) aZ3 (by kernel_rfl) ?y3_4 K1 ?r3_4
 case y3_4 => intro wx hx; obtain ⟨x0, x1⟩ := hx.two; go_simp; try (with_reducible rfl)
 simp only [Act.put, List.setIfInBounds_toArray, List.set_cons_zero, List.set_cons_succ]
 refine anyL_tk (i := 5) (v := ?v5_5) aZ5 (by kernel_rfl) ?y5_5 K1 ?r5_5
 case y5_5 => intro wx hx; obtain ⟨x0, x1⟩ := hx.two; go_simp; try (with_reducible rfl)
 simp only [Act.put, List.setIfInBounds_toArray, List.set_cons_zero, List.set_cons_succ]
 refine anyL_one (i := 4) aZ4 (by kernel_rfl) rfl (fun K hK => ?_)
 go_simp
 refine (starts_any _ _ _).mono ?_
 rintro e w2 ⟨v2, rfl, ho2, hb2⟩
 have K2 : HeldB w.heap.size z (.slice a n cap) w2 := K1.below hb2 s1
 have HB2 : Hid (Below w.heap.size w w2) := HB1.out.trans ((below_undrewS hb2).mono HB1.out.size)
 have HO2 : Hid (w2.ownsRow w1.heap.size 3 1 v2 (startL z).length ((startL z).flatMap encI1)) := ho2
 have s2 : w1.heap.size ≤ w2.heap.size := hb2.size
 refine hK _ _ (.inr K2) ?_
 try simp only [Act.put, List.setIfInBounds_toArray, List.set_cons_zero, List.set_cons_succ]
 clear hb2 ho2 K0 K1
 refine anyL_one (i := 6) aZ6 (by kernel_rfl) rfl (fun K hK => ?_)
 go_simp
 refine (followed_any _ _ _).mono ?_
 rintro e w3 ⟨rfl, b3, hb3⟩
 have K3 : HeldB w.heap.size z (.slice a n cap) w3 := K2.below hb3 (by omega)
 have HB3 : Hid (Below w.heap.size w w3) := HB2.out.trans (hb3.mono HB2.out.size)
 have HO3 : Hid (w3.ownsRow w1.heap.size 3 1 v2 (startL z).length ((startL z).flatMap encI1)) := ownBelow HO2.out hb3
 have s3 : w2.heap.size ≤ w3.heap.size := hb3.size
 have HASK : Hid (AskL 171 #[.pointer (some ⟨w2.heap.size, 0, none⟩)] (toL l) n w3 v2.ownBlock) := by
  refine ⟨hent, fun q hq W hW => ?_⟩
  have hBW : Below w.heap.size w W := HB3.out.trans (gBelow hW (fun k hk => Nat.le_trans (by omega) (HO2.out.lt k hk).1) HB3.out.size)
  have hne : some w2.heap.size ≠ v2.ownBlock := fun e9 => by have h9 := (HO2.out.lt _ e9.symm).2; omega
  exact leads_any z _ l W (HM.out.later hBW (Nat.le_refl _)) HK.out _ (b3.grown hW hne) q (by rw [HN.out]; exact hq)
 refine hK _ _ (.inr K3) ?_
 try simp only [Act.put, List.setIfInBounds_toArray, List.set_cons_zero, List.set_cons_succ]
 clear hb3 b3 K2
 refine anyL_one (i := 7) aZ7 (by kernel_rfl) rfl (fun K hK => ?_)
 go_simp
 refine (spread_any n v2 (startL z) _ _ (toL l) w1.heap.size w3 HO3.out (by omega) (by have h9 := (right_size HR.out).1; rw [HN.out] at h9; exact h9) (fun x hx => by
   unfold startL at hx
   have h9 := HZ.out
   split at hx
   ·simp at hx
   ·simp at hx; subst hx; omega) (by unfold startL; split <;> simp) HASK.out (fun q hq y hy => by
   obtain ⟨c, hc, rfl⟩ := List.mem_map.1 hy
   have h9 := List.all_eq_true.1 (right_st HR.out (j := q) (by rw [HN.out]; exact hq)).2 c hc
   rw [HN.out] at h9
   simp only [arcB, inB, Bool.and_eq_true, decide_eq_true_eq] at h9
   omega) (fun q hq => by
   have h8 := (right_size HR.out).2
   have h9 := st_arcs (l := l) (j := q) (by rw [HN.out]; exact hq)
   unfold toL
   rw [List.length_map]
   omega)).mono ?_
 rintro e w4 ⟨v4, rfl, ⟨bs, hB4, hL4⟩, hg4⟩
 have K4 : HeldB w.heap.size z (.slice a n cap) w4 := K3.grown hg4 (fun e9 => by have h9 := (HO2.out.lt _ e9.symm).1; omega)
 have HB4 : Hid (Below w.heap.size w w4) := HB3.out.trans (gBelow hg4 (fun k hk => Nat.le_trans (by omega) (HO2.out.lt k hk).1) HB3.out.size)
 have HL4 : Hid (Least (AheadC z l) n bs) := hL4.iff (fun T => by have h9 := ahead_spread (z := z) (l := l) (by rw [HN.out]; exact HZ.out.2) T; rw [HN.out] at h9; exact h9)
 have HBB : Hid (Bools w4 v4 bs) := hB4
 refine hK _ _ (.inr K4) ?_
 try simp only [Act.put, List.setIfInBounds_toArray, List.set_cons_zero, List.set_cons_succ]
 clear hB4 hL4 hg4 K3
 refine anyL_one (i := 8) aZ8 (by kernel_rfl) rfl (fun K hK => ?_)
 go_simp
 refine hK _ _ (.inr K4) ?_
 try simp only [Act.put, List.setIfInBounds_toArray, List.set_cons_zero, List.set_cons_succ]
 refine anyL_one (i := 9) aZ9 (by kernel_rfl) rfl (fun K hK => ?_)
 go_simp
 refine hK _ _ (.inr K4) (anyL_done (by kernel_rfl) (NoPanic.normal ?_))
 try simp only [Act.put, List.setIfInBounds_toArray, List.set_cons_zero, List.set_cons_succ]
 clear K4
 go_wp2
 exact bodyPost_ret (v := .tuple #[v4, .int .i64 0]) (by simp [results, Tryz.results112, go_sem]) rfl ⟨_, rfl, ⟨bs, HBB.out, HL4.out⟩, HB4.out⟩
set_option maxRecDepth 100000 in
theorem ahead_bad (v : Value) (m : Mc) (w : World) (h : Mach w v m) (hok : okM m) (r : Int) (hr : faultM m = r) (h0 : ¬ r = 0) :
  Calls Tryz.prog 112 #[v] w fun e w' => e = .returned (.tuple #[.slice none 0 0, .int .i64 r]) ∧ Below w.heap.size w w' := by
 obtain ⟨z, l⟩ := m
 obtain ⟨vs, rfl, hS⟩ := h
 obtain ⟨a, cap, rfl⟩ := hS.sl
 have HM : Hid (Mach w (.agg #[.int .i64 z, .slice a l.length cap]) (z, l)) := ⟨_, rfl, hS⟩
 have HK : Hid (okM (z, l)) := hok
 have HR : Hid (faultM (z, l) = r) := hr
 clear hS hok hr
 simp only
 have hne : (r != 0) = true := by simpa using h0
 generalize l.length = n at *
 go_enter Tryz.func112, Tryz.ntmps112
 go_wp2_with (first
  | (go_at_call 28; (with_reducible refine (coreCheck_any _ (z, l) _ (HM.out.later (B := w.heap.size) (by go_grown) (Nat.le_refl _)) HK.out _ HR.out).mono ?_); rintro e w1 ⟨rfl, hb⟩; obtain ⟨s1, b1, hb1⟩ := boxed hb (by simp); have HB1 : Hid (Below w.heap.size w w1) := hb1; clear b1 hb1 hb))
 exact bodyPost_ret (v := .tuple #[.slice none 0 0, .int .i64 r]) (by simp [results, Tryz.results112, go_sem]) rfl ⟨rfl, HB1.out⟩
end Go.Proofs.YtfhjncpakgailaaGreatDoor.Wt
