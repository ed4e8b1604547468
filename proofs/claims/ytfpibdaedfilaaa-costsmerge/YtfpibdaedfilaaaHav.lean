/- best.paths: what the n cheapest paths cost. -/
import Derived.Test.YtfpibdaedfilaaaHau
import Derived.Test.YtfpibdaedfilaaaHak
import Derived.Test.YtfpibdaedfilaaaHaj
import Derived.Test.YtfpibdaedfilaaaHaq
namespace Go.Proofs.Ytfpibdaedfilaaa.Bw
open Go.ChangeShapes Go.WideShapes Go.ChangeAt Go.RowKit
open Go.Proofs.Ytfpibdaedfilaaa.Pl Go.Proofs.Ytfpibdaedfilaaa.Wt
set_option linter.unusedVariables false
set_option linter.unusedSimpArgs false
theorem arcs_of {l : List St} {j : Nat} (h : j < l.length) : (el l j).2.length ≤ arcN l := by
 have h1 := arcN_take h
 have h2 : arcN (l.take (j + 1)) ≤ arcN l := by
  conv => rhs; rw [← List.take_append_drop (j + 1) l, arcN_append]
  omega
 omega
structure RgtM (z : Int) (l : List St) : Prop where
 rgt : RgtL l
 lo : -1 ≤ z
 hi : z < (l.length : Int)
 few : l.length ≤ 60
 arcs : ∀ q, q < l.length → (el l q).2.length ≤ 400
 all : arcN l ≤ 400
theorem RgtM.of {m : Mc} (hr : faultM m = 0) : RgtM m.1 m.2 :=
 ⟨RgtL.of hr, (right_parts hr).1.1, by have := (right_parts hr).1.2; omega, (right_size hr).1, fun q hq => by
  have h1 := arcs_of hq
  have h2 := (right_size hr).2
  omega, (right_size hr).2⟩
theorem RgtM.on500 {z : Int} {l : List St} (h : RgtM z l) : ∀ q, q < l.length + 1 → (el (onL l) q).length ≤ 500 := fun q hq => by
 by_cases hl : q < l.length
 ·rw [onL_el hl]
  have h1 := h.arcs q hl
  unfold onS
  rw [List.length_append, List.length_map]
  split <;> simp <;> omega
 ·rw [show q = l.length by omega, onL_end]; simp
def PthK (z : Int) (l : List St) (n : Nat) (L : List Int) : Prop := (z < 0 ∧ L = []) ∨ (0 ≤ z ∧ ∃ F, CkI (onL l) n z.toNat F [] ∧ L = el F l.length)
def HeldPm (B : Nat) (z : Int) (u : Value) (w : World) : Prop := w.cell? ⟨B, 0, none⟩ = some (.int .i64 z) ∧ w.cell? ⟨B, 1, none⟩ = some u
set_option maxRecDepth 100000 in
set_option maxHeartbeats 6400000 in
theorem paths_any (z : Int) (vs : Value) (l : List St) (n : Nat) (w : World) (h : Mach w (.agg #[.int .i64 z, vs]) (z, l)) (hR : RgtM z l) (hn : n ≤ 20) :
  Calls Try.prog 31 #[.agg #[.int .i64 z, vs], .int .i64 (n : Int)] w fun e w' => ∃ v L, e = .returned v ∧ Row 2 encT w' v L ∧ PthK z l n L ∧ Below w.heap.size w w' := by
 have HM : Hid (Mach w (.agg #[.int .i64 z, vs]) (z, l)) := h
 obtain ⟨vs', hvs, hS⟩ := h
 simp only [Value.agg.injEq, Array.mk.injEq, List.cons.injEq, and_true, true_and] at hvs
 subst hvs
 obtain ⟨a, cap, rfl⟩ := hS.sl
 have HR := hidP hR
 have hz0 := hR.lo
 have hz1 := hR.hi
 by_cases hz : z = -1
 ·subst hz
  have HPK : Hid (PthK (-1) l n []) := .inl ⟨by decide, rfl⟩
  clear hS hR
  go_enter Try.func31, Try.ntmps31
  go_wp2
  go_ret
  exact ⟨_, rfl, [], .inl ⟨rfl, rfl⟩, HPK.out, (Below.refl _ _).alloc (Nat.le_refl _) _⟩
 ·obtain ⟨s, rfl⟩ : ∃ s : Nat, z = (s : Int) := ⟨z.toNat, by omega⟩
  have hsl : s < l.length := by omega
  clear hS hR
  have hzb : ((s : Int) == -1) = false := by simp
  generalize hl : l.length = N at *
  have HL := hidP hl
  have M0 : Hid (Mach (w.alloc (.cells #[.int .i64 (s : Int), .slice a N cap] 27)).drew (.agg #[.int .i64 (s : Int), .slice a N cap]) ((s : Int), l)) := HM.out.later (B := w.heap.size) (((Below.refl _ _).alloc (Nat.le_refl _) _).drew) (Nat.le_refl _)
  have X0 := hidP (Blk.made w #[.int .i64 (s : Int), .slice a N cap] 27).drew
  have B0 : Hid (Below w.heap.size w (w.alloc (.cells #[.int .i64 (s : Int), .slice a N cap] 27)).drew) := ((Below.refl _ _).alloc (Nat.le_refl _) _).drew
  go_enter Try.func31, Try.ntmps31
  go_wp2
  generalize w.alloc (.cells #[.int .i64 (s : Int), .slice a N cap] 27) = W0 at *
  have HS : HeldPm w.heap.size s (.slice a N cap) W0.drew := ⟨X0.out.cell 0 rfl, X0.out.cell 1 rfl⟩
  have HON := hidP (onward_any (s : Int) (.slice a N cap) l W0.drew M0.out HR.out.few HR.out.arcs)
  rw [HL.out] at HON
  refine region_anyL (HeldPm w.heap.size s (.slice a N cap)) 1000 (by kernel_rfl) ?_
  refine anyL_tk (i := 0) (v := ?v0_1) aZ0 (by kernel_rfl) ?y0_1 HS ?r0_1
  case y0_1 => intro wx hx; obtain ⟨h0, h1⟩ := hx; go_simp; try (with_reducible rfl)
  simp only [Act.put, List.setIfInBounds_toArray, List.set_cons_zero, List.set_cons_succ]
  refine anyL_tk (i := 1) (v := ?v1_2) aZ1 (by kernel_rfl) ?y1_2 HS ?r1_2
  case y1_2 => intro wx hx; obtain ⟨h0, h1⟩ := hx; go_simp; try (with_reducible rfl)
  simp only [Act.put, List.setIfInBounds_toArray, List.set_cons_zero, List.set_cons_succ]
  refine anyL_tk (i := 2) (v := ?v2_3) aZ2 (by kernel_rfl) ?y2_3 HS ?r2_3
  case y2_3 => intro wx hx; obtain ⟨h0, h1⟩ := hx; go_simp; try (with_reducible rfl)
  simp only [Act.put, List.setIfInBounds_toArray, List.set_cons_zero, List.set_cons_succ]
  refine anyL_tk (i := 4) (v := ?v4_4) aZ4 (by kernel_rfl) ?y4_4 HS ?r4_4
  case y4_4 => intro wx hx; obtain ⟨h0, h1⟩ := hx; go_simp; try (with_reducible rfl)
  simp only [Act.put, List.setIfInBounds_toArray, List.set_cons_zero, List.set_cons_succ]
  refine anyL_tk (i := 6) (v := ?v6_5) aZ6 (by kernel_rfl) ?y6_5 HS ?r6_5
  case y6_5 => intro wx hx; obtain ⟨h0, h1⟩ := hx; go_simp; try (with_reducible rfl)
  simp only [Act.put, List.setIfInBounds_toArray, List.set_cons_zero, List.set_cons_succ]
  refine anyL_one (i := 3) aZ3 (by kernel_rfl) rfl (fun K hK => ?_)
  go_simp
  with_reducible refine HON.out.mono ?_
  rintro e w1 ⟨T, rows, rfl, t1, hT1, hb1⟩
  have X1 := hidP (X0.out.below hb1 X0.out.lt)
  have B1 := hidP (B0.out.trans (hb1.mono B0.out.size))
  have HS1 : HeldPm w.heap.size s (.slice a N cap) w1 := ⟨X1.out.cell 0 rfl, X1.out.cell 1 rfl⟩
  have HCH := hidP (cheapest_any s n (N + 1) T rows (onL l) w1 (by have := HR.out.few; rw [HL.out] at this; omega) hn (by omega) (onL_ok HR.out.rgt) (by rw [onL_len, HL.out]) (StpT.of t1) (by have := HR.out.on500; rw [HL.out] at this; exact this))
  clear t1 hT1 hb1
  refine hK _ _ (.inr HS1) ?_
  try simp only [Act.put, List.setIfInBounds_toArray, List.set_cons_zero, List.set_cons_succ]
  refine anyL_one (i := 5) aZ5 (by kernel_rfl) rfl (fun K hK => ?_)
  go_simp
  with_reducible refine HCH.out.mono ?_
  rintro e w2 ⟨T2, rows2, F, rfl, t2, hF, hT2, hb2⟩
  have X2 := hidP (X1.out.below hb2 X1.out.lt)
  have B2 := hidP (B1.out.trans (hb2.mono B1.out.size))
  have T2 := hidP t2
  have HF := hidP hF
  have HS2 : HeldPm w.heap.size s (.slice a N cap) w2 := ⟨X2.out.cell 0 rfl, X2.out.cell 1 rfl⟩
  clear t2 hF hT2 hb2
  refine hK _ _ (.inr HS2) ?_
  try simp only [Act.put, List.setIfInBounds_toArray, List.set_cons_zero, List.set_cons_succ]
  refine anyL_one (i := 7) aZ7 (by kernel_rfl) rfl (fun K hK => ?_)
  go_simp
  with_reducible refine (end_any _ _ _ _ _).mono ?_
  rintro e w3 ⟨rfl, hb3⟩
  have X3 := hidP (X2.out.below hb3 X2.out.lt)
  have B3 := hidP (B2.out.trans (hb3.mono B2.out.size))
  have T3 := hidP (T2.out.later hb3)
  have HS3 : HeldPm w.heap.size s (.slice a N cap) w3 := ⟨X3.out.cell 0 rfl, X3.out.cell 1 rfl⟩
  have cN := T3.out.cell (j := N) (by omega)
  have n0 : (0 : Int) ≤ (N : Int) := Int.natCast_nonneg _
  have n1 : (N : Int) < (N : Int) + 1 := by omega
  clear hb3
  refine hK _ _ (.inr HS3) ?_
  try simp only [Act.put, List.setIfInBounds_toArray, List.set_cons_zero, List.set_cons_succ]
  refine anyL_one (i := 8) aZ8 (by kernel_rfl) rfl (fun K hK => ?_)
  go_simp
  refine hK _ _ (.inr HS3) ?_
  try simp only [Act.put, List.setIfInBounds_toArray, List.set_cons_zero, List.set_cons_succ]
  refine anyL_one (i := 9) aZ9 (by kernel_rfl) rfl (fun K hK => ?_)
  go_simp
  refine hK _ _ (.inr HS3) ?_
  try simp only [Act.put, List.setIfInBounds_toArray, List.set_cons_zero, List.set_cons_succ]
  refine anyL_one (i := 10) aZ10 (by kernel_rfl) rfl (fun K hK => ?_)
  go_simp
  refine hK _ _ (.inr HS3) (anyL_done (by kernel_rfl) (NoPanic.normal ?_))
  try simp only [Act.put, List.setIfInBounds_toArray, List.set_cons_zero, List.set_cons_succ]
  clear HS HS1 HS2 HS3
  go_wp2
  go_ret
  exact ⟨_, el F N, rfl, T3.out.Row encT_len (j := N) (by omega), .inr ⟨by omega, F, by rw [Int.toNat_natCast]; exact HF.out, by rw [HL.out]⟩, B3.out⟩
theorem cost_ans {m : Mc} {n : Nat} (hr : faultM m = 0) (hn : n ≤ 20) {vs : List Int} (hv : DstAns m (EndC m.2) vs 0) {L : List Int} (hL : PthK m.1 m.2 n L) :
  ((∀ x ∈ L, kA x ≤ 1000000000) → CostAns m n (L.map kA) 0) ∧ ((∃ x ∈ L, 1000000000 < kA x) → CostAns m n [] 4) := by
 have hR := RgtM.of hr
 rcases hL with ⟨h0, rfl⟩ | ⟨h0, F, hF, rfl⟩
 ·refine ⟨fun _ => .inr (.inr ⟨hr, by omega, by omega, vs, 0, hv, .inr (.inl ⟨rfl, h0, rfl, rfl⟩)⟩), fun ⟨x, hx, _⟩ => by cases hx⟩
 ·have h1 := hR.hi
  obtain ⟨R, hC, h2, h3⟩ := costs_found hR.rgt (start := m.1.toNat) (by omega) (by have := hR.few; omega) hn hF
  refine ⟨fun h => .inr (.inr ⟨hr, by omega, by omega, vs, 0, hv, .inr (.inr ⟨rfl, h0, R, by rw [Int.toNat_natCast]; exact hC, .inr ⟨?_, (h2 h).symm, rfl⟩⟩)⟩), fun h => .inr (.inr ⟨hr, by omega, by omega, vs, 0, hv, .inr (.inr ⟨rfl, h0, R, by rw [Int.toNat_natCast]; exact hC, .inl ⟨h3 h, rfl, rfl⟩⟩)⟩)⟩
  rw [h2 h]
  intro x hx
  obtain ⟨y, hy, rfl⟩ := List.mem_map.1 hx
  exact h y hy
theorem ckFew {S : List (List Ar)} {n start : Nat} {F : List (List Int)} {H : List Ar} (h : CkI S n start F H) {p : Nat} (hp : p < S.length) : (el F p).length ≤ n := h.key.few p hp
set_option maxRecDepth 100000 in
set_option maxHeartbeats 6400000 in
theorem costP_any (v : Value) (m : Mc) (n : Int) (w : World) (h : Mach w v m) (hok : okM m) :
  Calls Try.prog 11 #[v, .int .i64 n] w fun e w' => LstRes (CostAns m n) w e w' := by
 obtain ⟨z, l⟩ := m
 obtain ⟨i1, hi1, hy0, hy1, hy2⟩ := info_parts infoIntU
 have HM : Hid (Mach w v (z, l)) := h
 obtain ⟨vs, rfl, hS⟩ := h
 obtain ⟨a, cap, rfl⟩ := hS.sl
 generalize hl : l.length = N at *
 have HL := hidP hl
 have HK := hidP hok
 have HX : Hid (∀ W, Below w.heap.size w W → Mach W (.agg #[.int .i64 z, .slice a N cap]) (z, l)) := fun W hW => HM.out.later hW (Nat.le_refl _)
 have HCK : Hid (∀ W, Below w.heap.size w W → Calls Try.prog 30 #[.agg #[.int .i64 z, .slice a N cap]] W fun e w' => e = .returned (.int .i64 (faultM (z, l))) ∧ Below W.heap.size W w') := fun W hW => coreCheck_any _ (z, l) W (HX.out W hW) HK.out _ rfl
 have HEN : Hid (∀ W, Below w.heap.size w W → Calls Try.prog 22 #[.agg #[.int .i64 z, .slice a N cap]] W fun e w' => LstRes (DstAns (z, l) (EndC l)) W e w') := fun W hW => endsP_any _ (z, l) W (HX.out W hW) HK.out
 by_cases hr : faultM (z, l) = 0
 ·have HR := hidP hr
  rw [hr] at HCK
  by_cases hn0 : n < 0
  ·have HA : Hid (CostAns (z, l) n [] 2) := .inr (.inl ⟨hr, by omega, rfl, rfl⟩)
   clear hS hok hr
   go_enter Try.func11, Try.ntmps11
   go_wp2_with (first
    | (go_at_call 30; (with_reducible refine (HCK.out _ (by go_grown)).mono ?_); rintro e w1 ⟨rfl, hb⟩; obtain ⟨s1, b1, hb1⟩ := boxed hb (by simp); have HB1 := hidP hb1; clear hb b1 hb1))
   go_ret2
   exact ⟨_, [], 2, rfl, HA.out, .inl ⟨rfl, rfl⟩, HB1.out⟩
  ·by_cases hn1 : 20 < n
   ·have HA : Hid (CostAns (z, l) n [] 2) := .inr (.inl ⟨hr, by omega, rfl, rfl⟩)
    clear hS hok hr
    go_enter Try.func11, Try.ntmps11
    go_wp2_with (first
     | (go_at_call 30; (with_reducible refine (HCK.out _ (by go_grown)).mono ?_); rintro e w1 ⟨rfl, hb⟩; obtain ⟨s1, b1, hb1⟩ := boxed hb (by simp); have HB1 := hidP hb1; clear hb b1 hb1))
    go_ret2
    exact ⟨_, [], 2, rfl, HA.out, .inl ⟨rfl, rfl⟩, HB1.out⟩
   ·obtain ⟨k, rfl⟩ : ∃ k : Nat, n = (k : Int) := ⟨n.toNat, by omega⟩
    have hk : k ≤ 20 := by omega
    have HRM := hidP (RgtM.of (m := (z, l)) hr)
    have HPA : Hid (∀ W, Below w.heap.size w W → Calls Try.prog 31 #[.agg #[.int .i64 z, .slice a N cap], .int .i64 (k : Int)] W fun e w' => ∃ v L, e = .returned v ∧ Row 2 encT w' v L ∧ PthK z l k L ∧ Below W.heap.size W w') := fun W hW => paths_any z _ l k W (HX.out W hW) HRM.out hk
    have HCA : Hid (∀ vs ec, DstAns (z, l) (EndC l) vs ec → ec ≠ 0 → CostAns (z, l) k [] ec) := fun vs ec hd he => .inr (.inr ⟨HR.out, by omega, by omega, vs, ec, hd, .inl ⟨he, rfl, rfl⟩⟩)
    clear hS hok hr
    go_enter Try.func11, Try.ntmps11
    go_wp2_with (first
     | (go_at_call 30; (with_reducible refine (HCK.out _ (by go_grown)).mono ?_); rintro e w1 ⟨rfl, hb⟩; obtain ⟨s1, b1, hb1⟩ := boxed hb (by simp); have K1 := hidP b1; have HB1 := hidP hb1; have c0 := b1.cell 0 (v := .int .i64 z) rfl; have c1 := b1.cell 1 (v := .slice a N cap) rfl; clear hb b1 hb1)
     | (go_at_call 22; ((with_reducible refine (HEN.out _ HB1.out).mono ?_); rintro e w2 ⟨v2, vs2, ec2, rfl, hA2, hN2, hb⟩; have K2 := hidP (K1.out.below hb K1.out.lt); have HB2 := hidP (HB1.out.trans (hb.mono HB1.out.size)); have HA2 := hidP hA2; have d0 := K2.out.cell 0 (v := .int .i64 z) rfl; have d1 := K2.out.cell 1 (v := .slice a N cap) rfl; clear hb hA2 hN2; by_cases he : ec2 = 0))
     | (go_at_call 31; ((with_reducible refine (HPA.out _ HB2.out).mono ?_); rintro e w3 ⟨v3, L3, rfl, hR3, hP3, hb⟩; have HB3 := hidP (HB2.out.trans (hb.mono HB2.out.size)); have HR3 := hidP hR3; have HP3 := hidP hP3; obtain ⟨a3, cap3, hv3, hg3⟩ := rowT_get hR3; have HG3 := hidP hg3; clear hb hR3 hP3 hg3; subst hv3)))
    ·have HCO := hidP (cost_ans (m := (z, l)) HR.out hk (by have h9 := HA2.out; rw [he] at h9; exact h9) HP3.out)
     have HLN : Hid (L3.length ≤ 1000) := by
      rcases HP3.out with ⟨_, h9⟩ | ⟨_, F, hF, h9⟩
      ·rw [h9]; exact Nat.zero_le _
      ·rw [h9]
       have h8 := ckFew hF (p := l.length) (by rw [onL_len]; omega)
       show _ ≤ _
       omega
     generalize hlen : L3.length = M at *
     have HM3 := hidP hlen
     have hM : M ≤ 1000 := HLN.out
     clear hlen
     go_loopw [9, 35] (fun s9 i wr => ∃ (j : Nat) (vo : Value), j ≤ M ∧ vo = s9 ∧ i = .int .i64 j ∧ Hid (wr.ownsRow w3.heap.size 3 1 vo ((L3.take j).map kA).length (((L3.take j).map kA).flatMap encI1)) ∧ Hid (∀ x ∈ L3.take j, kA x ≤ 1000000000) ∧ Hid (Below w3.heap.size w3 wr)) (fun _ i _ => M - (intOf i).toNat)
     case atStart => exact ⟨0, _, Nat.zero_le _, rfl, rfl, World.ownsRow_nil _ _ _ _, fun x hx => absurd hx (by simp), Below.refl _ _⟩
     case round =>
      obtain ⟨j, vo, hj, rfl, rfl, hown, hle, hb⟩ := hrel
      by_cases hjM : j < M
      ·obtain ⟨b3, off3, rfl, hb3l, e0, e1⟩ := HG3.out j hjM
       have e0 := (hb.out.cell (p := ⟨b3, off3 + j * 2, none⟩) hb3l).trans e0
       have e1 := (hb.out.cell (p := ⟨b3, off3 + j * 2 + 1, none⟩) hb3l).trans e1
       have HTK := hidP (take_el (l := L3) (k := j) (by rw [HM3.out]; exact hjM))
       have HMM := hidP (el_mem (l := L3) (j := j) (by rw [HM3.out]; exact hjM))
       have HTL : Hid (((L3.take j).map kA).length = j) := by show _ = _; rw [List.length_map, List.length_take, HM3.out]; omega
       have hj0 : (0 : Int) ≤ (j : Int) := by omega
       have hj1 : (j : Int) < (M : Int) := by omega
       generalize el L3 j = x at *
       have HXA := hidP (rfl : kA x = kA x)
       generalize hxa : kA x = xa at *
       have HXB := hidP hxa
       generalize kB x = xb at *
       clear hxa HXA
       have HD : Hid ((wr.alloc (.cells #[.int .i64 xa, .int .i64 xb] 69)).ownsRow w3.heap.size 3 1 vo ((L3.take j).map kA).length (((L3.take j).map kA).flatMap encI1)) := hown.out.alloc _
       have HDB : Hid (Below w3.heap.size w3 (wr.alloc (.cells #[.int .i64 xa, .int .i64 xb] 69))) := hb.out.alloc hb.out.size _
       by_cases hov : (1000000000 : Int) < xa
       ·have HOV := hidP (HCO.out.2 ⟨x, HMM.out, by rw [HXB.out]; exact hov⟩)
        go_wp2
        go_ret2
        exact ⟨_, [], 4, rfl, HOV.out, .inl ⟨rfl, rfl⟩, HB3.out.trans (HDB.out.mono HB3.out.size)⟩
       ·have HLE : Hid (∀ y ∈ L3.take (j + 1), kA y ≤ 1000000000) := fun y hy => by
         rw [HTK.out] at hy
         rcases List.mem_append.1 hy with hy | hy
         ·exact hle.out y hy
         ·rw [List.mem_singleton.1 hy, HXB.out]; omega
        have HMP : Hid ((L3.take (j + 1)).map kA = (L3.take j).map kA ++ [xa]) := by show _ = _; rw [HTK.out, List.map_append, List.map_cons, List.map_nil, HXB.out]
        generalize (L3.take j).map kA = ks at *
        have hkl : ks.length = j := HTL.out
        go_wp2_with (first
         | (at_builtin; refine wpList_append_rows encI1_len (by decide) encI1_one rfl _ _ 34 rfl w3.heap.size 3 i1 _ 8 Try.underlying34 hi1 hy0 hy1 hy2 rfl _ ks.length (ks.flatMap encI1) rfl (HD.out.alloc _) _ [xa] rfl (by have h9 := oneRow (enc := encI1) (wr.alloc (.cells #[.int .i64 xa, .int .i64 xb] 69)) xa rfl 3; simp only [World.size_alloc] at h9; exact h9) (by simp; unfold maxLen; omega) (by simp; omega) (by have := HDB.out.size; simp at this ⊢; omega) ?_; intro v4 w4 ho4 hg4; obtain ⟨HO4, HB4, HZ4⟩ := snocFacts HD.out HDB.out.size ho4 hg4; clear ho4 hg4))
        go_roundw
        case rel => exact ⟨j + 1, _, by omega, rfl, by go_num, by rw [HMP.out]; exact HO4, HLE, HDB.out.trans HB4.out⟩
        case measure => simp [intOf]; omega
      ·have hnl : ¬ (j : Int) < (M : Int) := by omega
       have HOK := hidP (HCO.out.1 (by have h9 := hle.out; rw [show j = L3.length by rw [HM3.out]; omega, List.take_length] at h9; exact h9))
       have HOW := hown.out
       rw [show j = L3.length by rw [HM3.out]; omega, List.take_length] at HOW
       have HNU : Hid (Nums wr vo (L3.map kA)) := Row.ofOwn encI1_len HOW rfl
       go_wp2
       go_ret2
       exact ⟨_, _, 0, rfl, HOK.out, HNU.out, HB3.out.trans (hb.out.mono HB3.out.size)⟩
    ·go_ret2
     exact ⟨_, [], ec2, rfl, HCA.out vs2 ec2 HA2.out he, .inl ⟨rfl, rfl⟩, HB2.out⟩
 ·have HA : Hid (CostAns (z, l) n [] (faultM (z, l))) := .inl ⟨hr, rfl, rfl⟩
  generalize faultM (z, l) = r at *
  clear hS hok
  go_enter Try.func11, Try.ntmps11
  go_wp2_with (first
   | (go_at_call 30; (with_reducible refine (HCK.out _ (by go_grown)).mono ?_); rintro e w1 ⟨rfl, hb⟩; obtain ⟨s1, b1, hb1⟩ := boxed hb (by simp); have HB1 := hidP hb1; clear hb b1 hb1))
  go_ret2
  exact ⟨_, [], r, rfl, HA.out, .inl ⟨rfl, rfl⟩, HB1.out⟩
end Go.Proofs.Ytfpibdaedfilaaa.Bw
namespace Go.Proofs.Ytfpibdaedfilaaa.Pl
set_option linter.unusedVariables false
theorem sN_top {l : List St} (hR : RgtL l) {W : Nat} (hf : ∀ q, q < l.length → (el l q).1 ≠ 1000000001 → (el l q).1.toNat ≤ W) (ha : ∀ q, q < l.length → ∀ a ∈ (el l q).2, a.2.2.1.toNat ≤ W) : ∀ (k q c d : Nat), q < l.length → k * W ≤ c → k * W ≤ d → sN l k q c = sN l k q d
  | 0, q, c, d, _, _, _ => rfl
  | k + 1, q, c, d, hq, hc, hd => by
    rw [sN_front, sN_front]
    rw [Nat.succ_mul] at hc hd
    have h1 := hf q hq
    congr 1
    · unfold fE
      by_cases g : (el l q).1 = 1000000001
      · simp [g]
      · rw [if_pos ⟨g, by have := h1 g; omega⟩, if_pos ⟨g, by have := h1 g; omega⟩]
    · congr 1
      refine List.map_congr_left fun a hm => ?_
      obtain ⟨w0, w1, t, e, ht⟩ := hR.arc q hq a hm
      have h2 := ha q hq a hm
      rw [if_pos (by omega), if_pos (by omega), e, Int.toNat_natCast]
      exact sN_top hR hf ha k t _ _ ht (by omega) (by omega)
theorem cheap_small {l : List St} (hR : RgtL l) {W : Nat} (hf : ∀ q, q < l.length → (el l q).1 ≠ 1000000001 → (el l q).1.toNat ≤ W) (ha : ∀ q, q < l.length → ∀ a ∈ (el l q).2, a.2.2.1.toNat ≤ W) {q n : Nat} {R : List Int} (hq : q < l.length) (h : CheapN l q n R) : ∀ x ∈ R, x ≤ (((l.length * (n + 1) + 1) * W : Nat) : Int) := by
 intro x hx
 rcases Int.lt_or_le (((l.length * (n + 1) + 1) * W : Nat) : Int) x with g | g
 ·exfalso
  have h1 := cLe_lt ⟨x, hx, g⟩
  obtain ⟨a, hab⟩ := cLe_big (l := R)
  have h2 := hab (max a ((l.length * (n + 1) + 1) * W) : Nat) (by omega)
  rw [h.cnt] at h1 h2
  rw [sN_top hR hf ha _ q (max a ((l.length * (n + 1) + 1) * W)) ((l.length * (n + 1) + 1) * W) hq (by omega) (Nat.le_refl _)] at h2
  omega
 ·exact g
theorem sN_posE {l : List St} (hR : RgtL l) {k q c : Nat} (hq : q < l.length) (h : 0 < sN l k q c) : ∃ d, EndC l q d ∧ d ≤ c := by
 unfold sN at h
 obtain ⟨x, hx, h0⟩ := sum_pos h
 obtain ⟨j, _, rfl⟩ := List.mem_map.1 hx
 obtain ⟨p, d, h1, h2, h3, h4⟩ := (eN_pos hR.to hq).1 h0
 exact ⟨_, ⟨j, p, d, h1, h2, h3, rfl⟩, h4⟩
theorem sN_ofE {l : List St} (hR : RgtL l) {q c d n : Nat} (hq : q < l.length) (h : EndC l q d) (hd : d ≤ c) (hn : 0 < n) : 0 < sN l (l.length * (n + 1) + 1) q c := by
 obtain ⟨k, p, d', h1, h2, h3, rfl⟩ := h
 have h4 : 0 < eN l k q c := (eN_pos hR.to hq).2 ⟨p, d', h1, h2, h3, hd⟩
 have h5 : 0 < sN l (max (k + 1) (l.length * (n + 1) + 1)) q c := by
  have h6 := sN_mono l (show k + 1 ≤ max (k + 1) (l.length * (n + 1) + 1) by omega) q c
  have h7 : sN l (k + 1) q c = sN l k q c + eN l k q c := sN_succ l k q c
  omega
 have h8 := sN_stable hR.to hq (c := c) (n := n) (show l.length * (n + 1) ≤ l.length * (n + 1) + 1 by omega) (show l.length * (n + 1) + 1 ≤ max (k + 1) (l.length * (n + 1) + 1) by omega)
 omega
theorem cheap_least {l : List St} (hR : RgtL l) {q n : Nat} {R : List Int} {w : Int} (hq : q < l.length) (hn : 0 < n) (h : CheapN l q n R) (hw : CstIs (EndC l q) w) : (R = [] ∧ w = 1000000001) ∨ (0 < R.length ∧ w ≠ 1000000001 ∧ el R 0 = w) := by
  rcases hw with ⟨rfl, h0⟩ | ⟨c, ⟨h1, h2⟩, h3, rfl⟩
  · left
    refine ⟨?_, rfl⟩
    cases R with
    | nil => rfl
    | cons x R =>
      exfalso
      have hx := h.pos x (List.mem_cons_self ..)
      have h1 : 0 < cLe (x :: R) ((x.toNat : Nat) : Int) := List.countP_pos_iff.2 ⟨x, List.mem_cons_self .., by simp; omega⟩
      rw [h.cnt] at h1
      obtain ⟨d, hd, _⟩ := sN_posE hR hq (show 0 < sN l (l.length * (n + 1) + 1) q x.toNat by omega)
      exact h0 d hd
  · right
    have h4 := sN_ofE hR hq h1 (Nat.le_refl c) hn
    have h5 : 0 < cLe R (c : Int) := by rw [h.cnt]; omega
    obtain ⟨y, hy, hyc⟩ := List.countP_pos_iff.1 h5
    simp at hyc
    cases R with
    | nil => cases hy
    | cons x R =>
      refine ⟨by simp, by omega, ?_⟩
      rw [el_zero]
      have hx := h.pos x (List.mem_cons_self ..)
      have hr := h.ris
      unfold RisL at hr
      rw [List.pairwise_cons] at hr
      have hxy : x ≤ y := by
        rcases List.mem_cons.1 hy with rfl | hy
        · exact Int.le_refl _
        · exact hr.1 y hy
      have h6 : 0 < cLe (x :: R) ((x.toNat : Nat) : Int) := List.countP_pos_iff.2 ⟨x, List.mem_cons_self .., by simp; omega⟩
      rw [h.cnt] at h6
      obtain ⟨d, hd, hdx⟩ := sN_posE hR hq (show 0 < sN l (l.length * (n + 1) + 1) q x.toNat by omega)
      have h7 := h2 d hd
      omega
theorem cost_made {m : Mc} {n : Int} {L : List Int} {e : Int} (hr : faultM m = 0) (hc : CheapL m.2) (hz : 0 ≤ m.1) (hl : m.2.length ≤ 20) (hn0 : 0 ≤ n) (hn : n ≤ 20) (h : CostAns m n L e) : e = 0 ∧ CheapN m.2 m.1.toNat n.toNat L := by
 have hR := RgtL.of hr
 have hs : m.1.toNat < m.2.length := by have := (right_parts hr).1; omega
 rcases h with ⟨h0, _⟩ | ⟨_, h0, _⟩ | ⟨_, _, _, vs, ec, hd, ⟨h0, _⟩ | ⟨_, h0, _⟩ | ⟨_, _, R, hC, h1⟩⟩
 ·exact absurd hr h0
 ·omega
 ·exact absurd (end_cst hr hc hd).1 h0
 ·omega
 ·have hsm := cheap_small hR (W := 8000) (fun q hq hf => by
   have := (hc _ (el_mem hq)).1 hf
   omega) (fun q hq a ha => by
   have := (hc _ (el_mem hq)).2 a ha
   omega) hs hC
  have hK : (m.2.length * (n.toNat + 1) + 1) * 8000 ≤ (20 * 21 + 1) * 8000 := Nat.mul_le_mul_right _ (by have := Nat.mul_le_mul hl (show n.toNat + 1 ≤ 21 by omega); omega)
  rcases h1 with ⟨⟨x, hx, hov⟩, _⟩ | ⟨_, rfl, rfl⟩
  ·have := hsm x hx
   omega
  ·exact ⟨rfl, hC⟩
def mrgN : Nat → List Int → List Int → List Int
  | 0, _, _ => []
  | f + 1, l, r => match r with
    | [] => match l with
      | [] => []
      | x :: l => x :: mrgN f l []
    | y :: r => match l with
      | [] => y :: mrgN f [] r
      | x :: l => if x ≤ y then x :: mrgN f l (y :: r) else y :: mrgN f (x :: l) r
theorem mrg_len : ∀ (f : Nat) (l r : List Int), (mrgN f l r).length = min f (l.length + r.length)
  | 0, l, r => by simp [mrgN]
  | f + 1, [], [] => by simp [mrgN]
  | f + 1, x :: l, [] => by simp [mrgN, mrg_len f l []] <;> omega
  | f + 1, [], y :: r => by simp [mrgN, mrg_len f [] r] <;> omega
  | f + 1, x :: l, y :: r => by
    unfold mrgN
    simp only
    by_cases h : x ≤ y
    · rw [if_pos h]; simp [mrg_len f l (y :: r)]; omega
    · rw [if_neg h]; simp [mrg_len f (x :: l) r]; omega
theorem mrg_mem : ∀ {f : Nat} {l r : List Int} {z : Int}, z ∈ mrgN f l r → z ∈ l ∨ z ∈ r
  | 0, l, r, z, h => by simp [mrgN] at h
  | f + 1, [], [], z, h => by simp [mrgN] at h
  | f + 1, x :: l, [], z, h => by
    simp only [mrgN, List.mem_cons] at h ⊢
    rcases h with h | h
    · exact .inl (.inl h)
    · rcases mrg_mem h with g | g
      · exact .inl (.inr g)
      · cases g
  | f + 1, [], y :: r, z, h => by
    simp only [mrgN, List.mem_cons] at h ⊢
    rcases h with h | h
    · exact .inr (.inl h)
    · rcases mrg_mem h with g | g
      · cases g
      · exact .inr (.inr g)
  | f + 1, x :: l, y :: r, z, h => by
    unfold mrgN at h
    simp only at h
    by_cases hxy : x ≤ y
    · rw [if_pos hxy, List.mem_cons] at h
      rcases h with h | h
      · exact .inl (h ▸ List.mem_cons_self ..)
      · rcases mrg_mem h with g | g
        · exact .inl (List.mem_cons_of_mem _ g)
        · exact .inr g
    · rw [if_neg hxy, List.mem_cons] at h
      rcases h with h | h
      · exact .inr (h ▸ List.mem_cons_self ..)
      · rcases mrg_mem h with g | g
        · exact .inl g
        · exact .inr (List.mem_cons_of_mem _ g)
theorem mrg_ris : ∀ (f : Nat) {l r : List Int}, RisL l → RisL r → RisL (mrgN f l r)
  | 0, l, r, _, _ => by simp [mrgN, RisL]
  | f + 1, [], [], _, _ => by simp [mrgN, RisL]
  | f + 1, x :: l, [], hl, hr => by
    have h1 := List.pairwise_cons.1 hl
    have := mrg_ris f (l := l) (r := []) h1.2 hr
    simp only [mrgN]
    refine List.pairwise_cons.2 ⟨fun z hz => ?_, this⟩
    rcases mrg_mem hz with g | g
    · exact h1.1 z g
    · cases g
  | f + 1, [], y :: r, hl, hr => by
    have h1 := List.pairwise_cons.1 hr
    have := mrg_ris f (l := []) (r := r) hl h1.2
    simp only [mrgN]
    refine List.pairwise_cons.2 ⟨fun z hz => ?_, this⟩
    rcases mrg_mem hz with g | g
    · cases g
    · exact h1.1 z g
  | f + 1, x :: l, y :: r, hl, hr => by
    have h1 := List.pairwise_cons.1 hl
    have h2 := List.pairwise_cons.1 hr
    unfold mrgN
    simp only
    by_cases h : x ≤ y
    · rw [if_pos h]
      refine List.pairwise_cons.2 ⟨fun z hz => ?_, mrg_ris f h1.2 hr⟩
      rcases mrg_mem hz with g | g
      · exact h1.1 z g
      · rcases List.mem_cons.1 g with rfl | g
        · exact h
        · have := h2.1 z g; omega
    · rw [if_neg h]
      refine List.pairwise_cons.2 ⟨fun z hz => ?_, mrg_ris f hl h2.2⟩
      rcases mrg_mem hz with g | g
      · rcases List.mem_cons.1 g with rfl | g
        · omega
        · have := h1.1 z g; omega
      · exact h2.1 z g
theorem cLe_above {l : List Int} {x c : Int} (h : RisL (x :: l)) (hc : c < x) : cLe l c = 0 := cLe_none fun z hz => by have := (List.pairwise_cons.1 h).1 z hz; omega
theorem mrg_cnt : ∀ (f : Nat) {l r : List Int}, RisL l → RisL r → ∀ c, cLe (mrgN f l r) c = min f (cLe l c + cLe r c)
  | 0, l, r, _, _, c => by simp [mrgN, cLe]
  | f + 1, [], [], _, _, c => by simp [mrgN, cLe]
  | f + 1, x :: l, [], hl, hr, c => by
    have h1 := List.pairwise_cons.1 hl
    simp only [mrgN]
    rw [cLe_cons, cLe_cons, mrg_cnt f h1.2 hr]
    by_cases hx : x ≤ c
    · rw [if_pos hx]; omega
    · rw [if_neg hx, cLe_above hl (by omega)]
      simp [cLe]
  | f + 1, [], y :: r, hl, hr, c => by
    have h1 := List.pairwise_cons.1 hr
    simp only [mrgN]
    rw [cLe_cons, cLe_cons, mrg_cnt f hl h1.2]
    by_cases hx : y ≤ c
    · rw [if_pos hx]; omega
    · rw [if_neg hx, cLe_above hr (by omega)]
      simp [cLe]
  | f + 1, x :: l, y :: r, hl, hr, c => by
    have h1 := List.pairwise_cons.1 hl
    have h2 := List.pairwise_cons.1 hr
    unfold mrgN
    simp only
    by_cases h : x ≤ y
    · rw [if_pos h, cLe_cons, mrg_cnt f h1.2 hr, cLe_cons, cLe_cons]
      by_cases hx : x ≤ c
      · simp only [if_pos hx]; omega
      · have e1 := cLe_above hl (c := c) (by omega)
        have e2 := cLe_above hr (c := c) (by omega)
        rw [e1, e2, if_neg hx, if_neg (by omega)]
        omega
    · rw [if_neg h, cLe_cons, mrg_cnt f hl h2.2, cLe_cons, cLe_cons]
      by_cases hy : y ≤ c
      · simp only [if_pos hy]; omega
      · have e1 := cLe_above hl (c := c) (by omega)
        have e2 := cLe_above hr (c := c) (by omega)
        rw [e1, e2, if_neg hy, if_neg (by omega)]
        omega
theorem eN_uniA {a b : Mc} (hR : RgtL a.2) : ∀ (k : Nat) {q c : Nat}, q < a.2.length → eN (uniM a b).2 k (q + 1) c = eN a.2 k q c
  | 0, q, c, hq => by
    show fE _ _ _ = fE _ _ _
    unfold fE
    rw [uni_elA a b hq]
    rfl
  | k + 1, q, c, hq => by
    show ((el (uniM a b).2 (q + 1)).2.map _).sum = ((el a.2 q).2.map _).sum
    rw [uni_elA a b hq]
    show (((el a.2 q).2.map (shA 1) ++ []).map _).sum = _
    rw [List.append_nil, List.map_map]
    congr 1
    refine List.map_congr_left fun x hx => ?_
    obtain ⟨_, _, t, e, ht⟩ := hR.arc q hq x hx
    have e2 : (shA 1 x).2.2.2.toNat = t + 1 := by
      show (x.2.2.2 + 1).toNat = t + 1
      omega
    have e3 : (shA 1 x).2.2.1 = x.2.2.1 := rfl
    simp only [Function.comp_apply, e2, e3]
    rw [eN_uniA hR k ht, e, Int.toNat_natCast]
theorem eN_uniB {a b : Mc} (hR : RgtL b.2) : ∀ (k : Nat) {q c : Nat}, q < b.2.length → eN (uniM a b).2 k (a.2.length + 1 + q) c = eN b.2 k q c
  | 0, q, c, hq => by
    show fE _ _ _ = fE _ _ _
    unfold fE
    rw [uni_elB a b hq]
    rfl
  | k + 1, q, c, hq => by
    show ((el (uniM a b).2 (a.2.length + 1 + q)).2.map _).sum = ((el b.2 q).2.map _).sum
    rw [uni_elB a b hq]
    show (((el b.2 q).2.map (shA (1 + (a.2.length : Int))) ++ []).map _).sum = _
    rw [List.append_nil, List.map_map]
    congr 1
    refine List.map_congr_left fun x hx => ?_
    obtain ⟨_, _, t, e, ht⟩ := hR.arc q hq x hx
    have e2 : (shA (1 + (a.2.length : Int)) x).2.2.2.toNat = a.2.length + 1 + t := by
      show (x.2.2.2 + (1 + (a.2.length : Int))).toNat = _
      omega
    have e3 : (shA (1 + (a.2.length : Int)) x).2.2.1 = x.2.2.1 := rfl
    simp only [Function.comp_apply, e2, e3]
    rw [eN_uniB hR k ht, e, Int.toNat_natCast]
theorem sN_uniA {a b : Mc} (hR : RgtL a.2) (k : Nat) {q c : Nat} (hq : q < a.2.length) : sN (uniM a b).2 k (q + 1) c = sN a.2 k q c := by
 unfold sN
 congr 1
 exact List.map_congr_left fun j _ => eN_uniA hR j hq
theorem sN_uniB {a b : Mc} (hR : RgtL b.2) (k : Nat) {q c : Nat} (hq : q < b.2.length) : sN (uniM a b).2 k (a.2.length + 1 + q) c = sN b.2 k q c := by
 unfold sN
 congr 1
 exact List.map_congr_left fun j _ => eN_uniB hR j hq
theorem sN_uni {a b : Mc} (ha : RgtL a.2) (hb : RgtL b.2) {y z : Nat} (ea : a.1 = (y : Int)) (eb : b.1 = (z : Int)) (hy : y < a.2.length) (hz : z < b.2.length) (k c : Nat) : sN (uniM a b).2 (k + 1) 0 c = sN a.2 k y c + sN b.2 k z c := by
 have hf : fE (uniM a b).2 0 c = 0 := by
  unfold fE
  rw [uni_el0]
  simp
 rw [sN_front, hf, uni_el0]
 have e1 : hopA a.1 1 0 = [(0, 0, 0, (y : Int) + 1)] := by unfold hopA; rw [if_neg (by omega), ea]
 have e2 : hopA b.1 (1 + (a.2.length : Int)) 0 = [(0, 0, 0, (z : Int) + (1 + (a.2.length : Int)))] := by unfold hopA; rw [if_neg (by omega), eb]
 simp only [e1, e2, List.cons_append, List.nil_append, List.map_cons, List.map_nil, List.sum_cons, List.sum_nil]
 have t1 : ((y : Int) + 1).toNat = y + 1 := by omega
 have t2 : ((z : Int) + (1 + (a.2.length : Int))).toNat = a.2.length + 1 + z := by omega
 have t0 : (0 : Int).toNat = 0 := rfl
 simp only [t0, t1, t2, Nat.zero_le, if_true, Nat.sub_zero, sN_uniA ha k hy, sN_uniB hb k hz]
 omega
theorem uni_len' (a b : Mc) : (uniM a b).2.length = a.2.length + b.2.length + 1 := by
 unfold uniM
 simp
theorem cheap_merge {a b : Mc} (ha : RgtL a.2) (hb : RgtL b.2) {y z : Nat} (ea : a.1 = (y : Int)) (eb : b.1 = (z : Int)) (hy : y < a.2.length) (hz : z < b.2.length) {n : Nat} {L R A : List Int} (hL : CheapN a.2 y n L) (hR : CheapN b.2 z n R) (hA : CheapN (uniM a b).2 0 n A) : A = mrgN n L R := by
 refine hA.one ⟨mrg_ris n hL.ris hR.ris, fun x hx => ?_, fun c => ?_⟩
 ·rcases mrg_mem hx with g | g
  ·exact hL.pos x g
  ·exact hR.pos x g
 ·rw [mrg_cnt n hL.ris hR.ris, hL.cnt, hR.cnt, sN_uni ha hb ea eb hy hz]
  have hlen := uni_len' a b
  have k1 : a.2.length * (n + 1) ≤ (uniM a b).2.length * (n + 1) := Nat.mul_le_mul_right _ (by omega)
  have k2 : b.2.length * (n + 1) ≤ (uniM a b).2.length * (n + 1) := Nat.mul_le_mul_right _ (by omega)
  have s1 := sN_stable ha.to hy (c := c) (n := n) (Nat.le_refl (a.2.length * (n + 1))) k1
  have s2 := sN_stable hb.to hz (c := c) (n := n) (Nat.le_refl (b.2.length * (n + 1))) k2
  have s3 := sN_stable ha.to hy (c := c) (n := n) (Nat.le_refl (a.2.length * (n + 1))) (Nat.le_succ (a.2.length * (n + 1)))
  have s4 := sN_stable hb.to hz (c := c) (n := n) (Nat.le_refl (b.2.length * (n + 1))) (Nat.le_succ (b.2.length * (n + 1)))
  rw [← Nat.succ_eq_add_one (a.2.length * (n + 1)), ← Nat.succ_eq_add_one (b.2.length * (n + 1)), s3, s4, ← s1, ← s2]
  omega
theorem mrg_next {f i j : Nat} {L R A : List Int} (h : A = mrgN f (L.drop i) (R.drop j)) (h0 : 0 < A.length) :
    (R.length ≤ j ∧ i < L.length ∧ el A 0 = el L i ∧ ∃ g, A.drop 1 = mrgN g (L.drop (i + 1)) (R.drop j)) ∨
    (j < R.length ∧ i < L.length ∧ el L i ≤ el R j ∧ el A 0 = el L i ∧ ∃ g, A.drop 1 = mrgN g (L.drop (i + 1)) (R.drop j)) ∨
    (j < R.length ∧ (L.length ≤ i ∨ i < L.length ∧ el R j < el L i) ∧ el A 0 = el R j ∧ ∃ g, A.drop 1 = mrgN g (L.drop i) (R.drop (j + 1))) := by
  cases f with
  | zero => rw [h] at h0; simp [mrgN] at h0
  | succ f =>
    by_cases hj : j < R.length
    · rw [List.drop_eq_getElem_cons hj, ← el_get hj] at h
      by_cases hi : i < L.length
      · rw [List.drop_eq_getElem_cons hi, ← el_get hi] at h
        unfold mrgN at h
        simp only at h
        by_cases hxy : el L i ≤ el R j
        · rw [if_pos hxy] at h
          refine .inr (.inl ⟨hj, hi, hxy, by rw [h, el_zero], f, ?_⟩)
          rw [h, List.drop_succ_cons, List.drop_zero, List.drop_eq_getElem_cons hj, ← el_get hj]
        · rw [if_neg hxy] at h
          refine .inr (.inr ⟨hj, .inr ⟨hi, by omega⟩, by rw [h, el_zero], f, ?_⟩)
          rw [h, List.drop_succ_cons, List.drop_zero, List.drop_eq_getElem_cons hi, ← el_get hi]
      · rw [List.drop_of_length_le (by omega : L.length ≤ i)] at h
        unfold mrgN at h
        simp only at h
        refine .inr (.inr ⟨hj, .inl (by omega), by rw [h, el_zero], f, ?_⟩)
        rw [h, List.drop_succ_cons, List.drop_zero, List.drop_of_length_le (by omega : L.length ≤ i)]
    · rw [List.drop_of_length_le (by omega : R.length ≤ j)] at h
      by_cases hi : i < L.length
      · rw [List.drop_eq_getElem_cons hi, ← el_get hi] at h
        unfold mrgN at h
        simp only at h
        refine .inl ⟨by omega, hi, by rw [h, el_zero], f, ?_⟩
        rw [h, List.drop_succ_cons, List.drop_zero, List.drop_of_length_le (by omega : R.length ≤ j)]
      · rw [List.drop_of_length_le (by omega : L.length ≤ i)] at h
        unfold mrgN at h
        simp only at h
        rw [h] at h0; simp at h0
end Go.Proofs.Ytfpibdaedfilaaa.Pl
