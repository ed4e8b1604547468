/- The program: orders, paths, the longest path. -/
import Derived.Test.YtfpibdaedfilaaaGaw
import Derived.Test.YtfpibdaedfilaaaGay
namespace Go.Proofs.Ytfpibdaedfilaaa.Pl
theorem ends_cnt {l : List St} {ns : List Int} {n : Nat} {x : Nat → Nat} (h : CntsL n (fun j => capN (x j)) ns) : ∀ k, k ≤ n → Wt.endsF (fun a b => min (a + b) 1000000001) l ns 0 k = ((capN (dotN (fun p => baseN (el l p).1) x k) : Nat) : Int) := by
  intro k
  induction k with
  | zero => intro _; rfl
  | succ k ih =>
    intro hk
    simp only [Wt.endsF, dotN]
    rw [ih (by omega)]
    split
    · rename_i e
      simp [baseN, e]
    · rename_i e
      rw [h.2 k (by omega), cap_join]
      simp [baseN, e]
end Go.Proofs.Ytfpibdaedfilaaa.Pl
namespace Go.Proofs.Ytfpibdaedfilaaa.Wt
open Go.ChangeShapes Go.WideShapes Go.ChangeAt Go.RowKit
open Go.Proofs.Ytfpibdaedfilaaa.Pl
set_option linter.unusedVariables false
set_option linter.unusedSimpArgs false
theorem ask_both : AskJ 29 (fun a b => min (a + b) 1000000001) 0 :=
 ⟨enters_of Try.func29 (by kernel_rfl) rfl, fun x y hx hy => ⟨by simp only; omega, fun W => bothWays_any x y hx hy W⟩⟩
def HeldX (B : Nat) (z : Int) (v : Value) (w : World) : Prop := Blk w B #[.int .i64 z, v] 27
theorem HeldX.two {B : Nat} {z : Int} {v : Value} {w : World} (h : HeldX B z v w) : w.cell? ⟨B, 0, none⟩ = some (.int .i64 z) ∧ w.cell? ⟨B, 1, none⟩ = some v := ⟨h.cell 0 rfl, h.cell 1 rfl⟩
theorem below_undrewO {B : Nat} {w w' : World} (h : Below B w.drew w') : Below B w w' := ⟨h.os, h.tape, h.output, h.size, h.block⟩
theorem order_cycle (v : Value) (z : Int) (l : List St) (w : World) (h : Mach w v (z, l)) (hok : okM (z, l)) (hr : faultM (z, l) = 0) (hc : CycleL l) :
  Calls Try.prog 26 #[v] w fun e w' => ∃ v' : Value, e = .returned (.tuple #[v', .int .i64 6]) ∧ Below w.heap.size w w' :=
 (order_any v (z, l) w h hok 0 hr).mono fun e w' ⟨v', ec, he, ⟨out, _, ha⟩, hb⟩ => by
  rw [OrdAns, if_pos rfl] at ha
  rcases ha with ⟨_, ho⟩ | ⟨rfl, _, _⟩
  ·exact absurd hc ho.noCycle
  ·exact ⟨v', he, hb⟩
theorem order_fine (v : Value) (z : Int) (l : List St) (w : World) (h : Mach w v (z, l)) (hok : okM (z, l)) (hr : faultM (z, l) = 0) (hc : ¬ CycleL l) :
  Calls Try.prog 26 #[v] w fun e w' => ∃ v' : Value, e = .returned (.tuple #[v', .int .i64 0]) ∧ (∃ out, Nums w' v' out ∧ OrderL l out) ∧ Below w.heap.size w w' :=
 (order_any v (z, l) w h hok 0 hr).mono fun e w' ⟨v', ec, he, ⟨out, hn, ha⟩, hb⟩ => by
  rw [OrdAns, if_pos rfl] at ha
  rcases ha with ⟨rfl, ho⟩ | ⟨_, h2, _⟩
  ·exact ⟨v', he, ⟨out, hn, ho⟩, hb⟩
  ·exact absurd h2 hc
theorem order_bad (v : Value) (m : Mc) (w : World) (h : Mach w v m) (hok : okM m) (r : Int) (hr : faultM m = r) (h0 : ¬ r = 0) :
  Calls Try.prog 26 #[v] w fun e w' => ∃ v' : Value, e = .returned (.tuple #[v', .int .i64 r]) ∧ Below w.heap.size w w' :=
 (order_any v m w h hok r hr).mono fun e w' ⟨v', ec, he, ⟨out, hn, ha⟩, hb⟩ => by
  rw [OrdAns, if_neg h0] at ha
  rw [ha.1] at he
  exact ⟨v', he, hb⟩
set_option maxRecDepth 100000 in
set_option maxHeartbeats 3200000 in
theorem paths_ok (z : Int) (l : List St) (vs : Value) (w : World) (h : Mach w (.agg #[.int .i64 z, vs]) (z, l)) (hok : okM (z, l)) (hr : faultM (z, l) = 0) (hc : ¬ CycleL l) :
  Calls Try.prog 10 #[.agg #[.int .i64 z, vs]] w fun e w' => ∃ (x ec : Int), e = .returned (.tuple #[.int .i64 x, .int .i64 ec]) ∧ PathAns (z, l) 0 x ec ∧ Below w.heap.size w w' := by
 have HM : Hid (Mach w (.agg #[.int .i64 z, vs]) (z, l)) := h
 have HK : Hid (okM (z, l)) := hok
 have HR : Hid (faultM (z, l) = 0) := hr
 have HCY : Hid (¬ CycleL l) := hc
 obtain ⟨vs', hvs, hS⟩ := h
 simp only [Value.agg.injEq, Array.mk.injEq, List.cons.injEq, and_true, true_and] at hvs
 subst hvs
 obtain ⟨a, cap, rfl⟩ := hS.sl
 have hz := (faultM_zero hr).2
 simp only [rangeB, Bool.and_eq_true, inB, decide_eq_true_eq] at hz
 have hz1 : -1 ≤ z := hz.1.1
 have hz2 : z < (l.length : Int) := by omega
 have HZ : Hid (-1 ≤ z ∧ z < (l.length : Int)) := ⟨hz1, hz2⟩
 have h60 : Hid (l.length ≤ 60) := (right_size hr).1
 have HTO : Hid (∀ q, q < l.length → ∀ a ∈ (el l q).2, ∃ t : Nat, a.2.2.2 = (t : Int) ∧ t < l.length) := fun q hq a ha => by
  have h9 := List.all_eq_true.1 (right_st hr hq).2 a ha
  simp only [arcB, inB, Bool.and_eq_true, decide_eq_true_eq] at h9
  exact ⟨a.2.2.2.toNat, by omega, by omega⟩
 clear hS hok hr hz hc hz1 hz2
 simp only
 obtain ⟨n, hn⟩ : ∃ n, l.length = n := ⟨_, rfl⟩
 have HN : Hid (l.length = n) := hn
 simp only [hn]
 simp only [hn] at HM
 clear hn
 go_enter Try.func10, Try.ntmps10
 go_wp2_with (first
  | (go_at_call 26; (with_reducible refine (order_fine _ z l _ (HM.out.later (B := w.heap.size) (by go_grown) (Nat.le_refl _)) HK.out HR.out HCY.out).mono ?_); rintro e w1 ⟨v1, rfl, ⟨out, hnu, hol⟩, hb⟩; obtain ⟨s1, b1, hb1⟩ := boxed hb (by simp); have K0 : HeldX w.heap.size z (.slice a n cap) w1 := b1; have HB1 : Hid (Below w.heap.size w w1) := hb1; have HNU : Hid (Nums w1 v1 out) := hnu; have HOL : Hid (OrderL l out) := hol; clear b1 hb1 hb hnu hol))
 have K1 : HeldX w.heap.size z (.slice a n cap) w1.drew := K0.drew
 refine region_anyL (HeldX w.heap.size z (.slice a n cap)) 1000 (by kernel_rfl) ?_
 refine anyL_tk (i := 0) (v := ?v0_1) aZ0 (by kernel_rfl) ?y0_1 K1 ?r0_1
 case y0_1 => intro wx hx; obtain ⟨x0, x1⟩ := hx.two; go_simp; try (with_reducible rfl)
 simp only [Act.put, List.setIfInBounds_toArray, List.set_cons_zero, List.set_cons_succ]
 refine anyL_tk (i := 1) (v := ?v1_2) aZ1 (by kernel_rfl) ?y1_2 K1 ?r1_2
 case y1_2 => intro wx hx; obtain ⟨x0, x1⟩ := hx.two; go_simp; try (with_reducible rfl)
 simp only [Act.put, List.setIfInBounds_toArray, List.set_cons_zero, List.set_cons_succ]
 refine anyL_tk (i := 2) (v := ?v2_3) aZ2 (by kernel_rfl) ?y2_3 K1 ?r2_3
 case y2_3 => intro wx hx; obtain ⟨x0, x1⟩ := hx.two; go_simp; try (with_reducible rfl)
 simp only [Act.put, List.setIfInBounds_toArray, List.set_cons_zero, List.set_cons_succ]
 refine anyL_one (i := 3) aZ3 (by kernel_rfl) rfl (fun K hK => ?_)
 go_simp
 refine (ways_any z _ l v1 out _ (HM.out.later (w' := w1.drew) (B := w.heap.size) HB1.out.drew (Nat.le_refl _)) HR.out (HNU.out.later (w' := w1.drew) (B := w1.heap.size) (Below.refl w1.heap.size w1).drew (Nat.le_refl _)) HOL.out).mono ?_
 rintro e w2 ⟨v2, rfl, ⟨ns, hnu2, hcn⟩, hb2⟩
 have K2 : HeldX w.heap.size z (.slice a n cap) w2 := K1.below hb2 s1
 have HB2 : Hid (Below w.heap.size w w2) := HB1.out.trans ((below_undrewO hb2).mono HB1.out.size)
 have HNL : Hid (ns.length = l.length) := hcn.1
 have HRG : Hid (∀ j, j < l.length → (0 : Int) ≤ el ns j ∧ el ns j ≤ 1000000001) := fun j hj => by
  rw [hcn.2 j hj]
  have h9 := capN_le (addL l out (begN z) j)
  simp only
  omega
 have HCT : Hid (endsF (fun a b => min (a + b) 1000000001) l ns 0 l.length = ((capN (if z < 0 then 0 else cntF l out z.toNat) : Nat) : Int)) := by
  show _ = _
  rw [ends_cnt hcn l.length (Nat.le_refl _), along_count HOL.out HTO.out HZ.out]
 have HNU2 : Hid (Nums w2 v2 ns) := hnu2
 refine hK _ _ (.inr K2) ?_
 try simp only [Act.put, List.setIfInBounds_toArray, List.set_cons_zero, List.set_cons_succ]
 clear hb2 hnu2 K0 K1 hcn
 refine anyL_one (i := 4) aZ4 (by kernel_rfl) rfl (fun K hK => ?_)
 go_simp
 refine (atEnds_any z _ l v2 ns 0 _ (fun a b => min (a + b) 1000000001) 0 w2 (HM.out.later (B := w.heap.size) HB2.out (Nat.le_refl _)) h60.out HNU2.out HNL.out (by omega) HRG.out ask_both).mono ?_
 rintro e w3 ⟨rfl, hb3⟩
 have K3 : HeldX w.heap.size z (.slice a n cap) w3 := K2.below hb3 (Nat.lt_of_lt_of_le K2.lt (Nat.le_refl _))
 have HB3 : Hid (Below w.heap.size w w3) := HB2.out.trans (hb3.mono HB2.out.size)
 refine hK _ _ (.inr K3) ?_
 try simp only [Act.put, List.setIfInBounds_toArray, List.set_cons_zero, List.set_cons_succ]
 clear hb3
 generalize hE : endsF (fun a b => min (a + b) 1000000001) l ns 0 l.length = E at *
 have HE : Hid (endsF (fun a b => min (a + b) 1000000001) l ns 0 l.length = E) := hE
 clear hE
 refine anyL_one (i := 5) aZ5 (by kernel_rfl) rfl (fun K hK => ?_)
 go_simp
 refine hK _ _ (.inr K3) (anyL_done (by kernel_rfl) (NoPanic.normal ?_))
 try simp only [Act.put, List.setIfInBounds_toArray, List.set_cons_zero, List.set_cons_succ]
 have HV : Hid (∃ x ec : Int, pathA z (cntF l out z.toNat) = (x, ec) ∧ ((1000000000 < E ∧ x = 0 ∧ ec = 4) ∨ (¬ 1000000000 < E ∧ x = E ∧ ec = 0))) := by
  have h9 := HCT.out
  generalize cntF l out z.toNat = c at *
  by_cases hz : z < 0
  ·rw [if_pos hz] at h9
   have h8 : capN 0 = 0 := rfl
   rw [h8] at h9
   exact ⟨0, 0, by rw [pathA, if_pos hz], .inr ⟨by omega, by omega, rfl⟩⟩
  ·rw [if_neg hz] at h9
   by_cases hgt : 1000000000 < c
   ·have := capN_gt.2 hgt
    exact ⟨0, 4, by rw [pathA, if_neg hz, if_pos hgt], .inl ⟨by omega, rfl, rfl⟩⟩
   ·have h8 := capN_eq (a := c) (by omega)
    rw [h8] at h9
    exact ⟨c, 0, by rw [pathA, if_neg hz, if_neg hgt], .inr ⟨by omega, by omega, rfl⟩⟩
 clear HCT HE
 by_cases hgt : 1000000000 < E
 ·have HA : Hid (PathAns (z, l) 0 0 4) := by
   obtain ⟨x, ec, hp, h9⟩ := HV.out
   rcases h9 with ⟨_, rfl, rfl⟩ | ⟨h8, _⟩
   ·show PathAns _ _ _ _
    rw [PathAns, if_pos rfl]
    exact .inl ⟨out, HOL.out, hp⟩
   ·exact absurd hgt h8
  go_wp2
  exact bodyPost_ret (v := .tuple #[.int .i64 0, .int .i64 4]) (by simp [results, Try.results10, go_sem]) rfl ⟨0, 4, rfl, HA.out, HB3.out⟩
 ·have HA : Hid (PathAns (z, l) 0 E 0) := by
   obtain ⟨x, ec, hp, h9⟩ := HV.out
   rcases h9 with ⟨h8, _⟩ | ⟨_, rfl, rfl⟩
   ·exact absurd h8 hgt
   ·show PathAns _ _ _ _
    rw [PathAns, if_pos rfl]
    exact .inl ⟨out, HOL.out, hp⟩
  go_wp2
  exact bodyPost_ret (v := .tuple #[.int .i64 E, .int .i64 0]) (by simp [results, Try.results10, go_sem]) rfl ⟨E, 0, rfl, HA.out, HB3.out⟩
set_option maxRecDepth 100000 in
set_option maxHeartbeats 1600000 in
theorem paths_any (v : Value) (m : Mc) (w : World) (h : Mach w v m) (hok : okM m) (r : Int) (hr : faultM m = r) :
  Calls Try.prog 10 #[v] w fun e w' => ∃ (x ec : Int), e = .returned (.tuple #[.int .i64 x, .int .i64 ec]) ∧ PathAns m r x ec ∧ Below w.heap.size w w' := by
 obtain ⟨z, l⟩ := m
 have HM : Hid (Mach w v (z, l)) := h
 have HK : Hid (okM (z, l)) := hok
 have HR : Hid (faultM (z, l) = r) := hr
 obtain ⟨vs, rfl, hS⟩ := h
 obtain ⟨a, cap, rfl⟩ := hS.sl
 clear hS hok hr
 by_cases h0 : r = 0
 ·subst h0
  by_cases hc : CycleL l
  ·have HCY : Hid (CycleL l) := hc
   clear hc
   go_enter Try.func10, Try.ntmps10
   go_wp2_with (first
    | (go_at_call 26; (with_reducible refine (order_cycle _ z l _ (HM.out.later (B := w.heap.size) (by go_grown) (Nat.le_refl _)) HK.out HR.out HCY.out).mono ?_); rintro e w1 ⟨v1, rfl, hb⟩; obtain ⟨s1, b1, hb1⟩ := boxed hb (by simp); have HB1 : Hid (Below w.heap.size w w1) := hb1; clear b1 hb1 hb))
   exact bodyPost_ret (v := .tuple #[.int .i64 0, .int .i64 6]) (by simp [results, Try.results10, go_sem]) rfl ⟨0, 6, rfl, by rw [PathAns, if_pos rfl]; exact .inr ⟨HCY.out, rfl, rfl⟩, HB1.out⟩
  ·exact paths_ok z l _ w HM.out HK.out HR.out hc
 ·have h0' : (r != 0) = true := by simp [h0]
  have H0 : Hid (¬ r = 0) := h0
  go_enter Try.func10, Try.ntmps10
  go_wp2_with (first
   | (go_at_call 26; (with_reducible refine (order_bad _ (z, l) _ (HM.out.later (B := w.heap.size) (by go_grown) (Nat.le_refl _)) HK.out r HR.out H0.out).mono ?_); rintro e w1 ⟨v1, rfl, hb⟩; obtain ⟨s1, b1, hb1⟩ := boxed hb (by simp); have HB1 : Hid (Below w.heap.size w w1) := hb1; clear b1 hb1 hb))
  exact bodyPost_ret (v := .tuple #[.int .i64 0, .int .i64 r]) (by simp [results, Try.results10, go_sem]) rfl ⟨0, r, rfl, by rw [PathAns, if_neg h0]; exact ⟨rfl, rfl⟩, HB1.out⟩
end Go.Proofs.Ytfpibdaedfilaaa.Wt
