/- best.along: the best path's arcs, in each state the first one behind which no more is left than has to be. -/
import Derived.Test.YtfpibdaedfilaaaEay
import Derived.WalkMore
import Derived.Test.YtfpibdaedfilaaaEal
import Derived.Test.YtfpibdaedfilaaaEac
import Derived.Test.YtfpibdaedfilaaaEao
namespace Go.Proofs.Ytfpibdaedfilaaa.Bw
open Go.ChangeShapes Go.WideShapes Go.ChangeAt Go.RowKit
open Go.Proofs.Ytfpibdaedfilaaa.Pl Go.Proofs.Ytfpibdaedfilaaa.Wt
set_option linter.unusedVariables false
set_option linter.unusedSimpArgs false
def HeldAl (X : Nat) (x0 x1 x2 x3 : Int) (T t q : Nat) (ta tb qa qb : Int) (w : World) : Prop := w.cell? ⟨X, 0, none⟩ = some (.int .i64 x0) ∧ w.cell? ⟨X, 1, none⟩ = some (.int .i64 x1) ∧ w.cell? ⟨X, 2, none⟩ = some (.int .i64 x2) ∧ w.cell? ⟨X, 3, none⟩ = some (.int .i64 x3) ∧ w.cell? ⟨T, t * 2, none⟩ = some (.int .i64 ta) ∧ w.cell? ⟨T, t * 2 + 1, none⟩ = some (.int .i64 tb) ∧ w.cell? ⟨T, q * 2, none⟩ = some (.int .i64 qa) ∧ w.cell? ⟨T, q * 2 + 1, none⟩ = some (.int .i64 qb)
theorem HeldAl.mk' {w : World} {X T t q : Nat} {x0 x1 x2 x3 : Int} {ks : List Int} (hX : Blk w X #[.int .i64 x0, .int .i64 x1, .int .i64 x2, .int .i64 x3] 58) (hK : KeyT w T ks) (ht : t < ks.length) (hq : q < ks.length) : HeldAl X x0 x1 x2 x3 T t q (kA (el ks t)) (kB (el ks t)) (kA (el ks q)) (kB (el ks q)) w :=
 ⟨hX.cell 0 rfl, hX.cell 1 rfl, hX.cell 2 rfl, hX.cell 3 rfl, (hK.cell ht).1, (hK.cell ht).2, (hK.cell hq).1, (hK.cell hq).2⟩
theorem iteB {α : Type} {p q : Prop} [Decidable p] [Decidable q] {a b : α} (h : ¬ (p ∧ q)) : (if p then if q then a else b else b) = b := by
 by_cases hp : p
 ·rw [if_pos hp, if_neg fun hq => h ⟨hp, hq⟩]
 ·rw [if_neg hp]
theorem iteA {α : Type} {p q : Prop} [Decidable p] [Decidable q] {a b : α} (h : p ∧ q) : (if p then if q then a else b else b) = a := by rw [if_pos h.1, if_pos h.2]
structure AlgI (l : List St) (fr : List Int) (s k0 t k : Nat) (D : List Nat) : Prop where
 lt : t < l.length
 len : LenA l fr t k
 kl : k < l.length
 fin : el fr t ≠ 1000000001
 pre : ∀ L, BstW l fr k t L → BstW l fr k0 s (D ++ L)
theorem AlgI.next {l : List St} {fr : List Int} {s k0 t k u i : Nat} {D : List Nat} (h : AlgI l fr s k0 t (k + 1) D) (hi : i < (el l t).2.length) (hu : (el (el l t).2 i).2.2.2 = (u : Int)) (hul : u < l.length) (hg : TgA fr t (el (el l t).2 i)) (hk : LenA l fr u k) (hno : ∀ j, j < i → ¬ (TgA fr t (el (el l t).2 j) ∧ LenA l fr (el (el l t).2 j).2.2.2.toNat k)) : AlgI l fr s k0 u k (D ++ [i]) := by
 have hto : (el (el l t).2 i).2.2.2.toNat = u := by omega
 refine ⟨hul, hk, by have := h.kl; omega, ?_, fun L hL => ?_⟩
 ·have := hg.1
  rw [hto] at this
  exact this
 ·rw [List.append_assoc]
  exact h.pre ([i] ++ L) (.cons hi hg (by rw [hto]; exact hk) hno (by rw [hto]; exact hL))
set_option maxRecDepth 100000 in
set_option maxHeartbeats 6400000 in
theorem along_any (s : Nat) (vs : Value) (l : List St) (T : Nat) (ks fr : List Int) (k0 : Nat) (w : World) (h : Mach w (.agg #[.int .i64 (s : Int), vs]) ((s : Int), l)) (hR : RgtM s l) (hT : KeyT w T ks) (hks : ks.length = l.length) (hF : FrT l fr) (hl : ∀ q, q < l.length → LftT l fr q (el ks q)) (hk0 : LenA l fr s k0) (hk0l : k0 < l.length) (hf : el fr s ≠ 1000000001) :
    Calls Try.prog 32 #[.agg #[.int .i64 (s : Int), vs], .slice (some ⟨T, 0, none⟩) l.length l.length] w fun e w' => ∃ v L, e = .returned v ∧ w'.ownsRow w.heap.size 3 1 v (L.map fun i : Nat => (i : Int)).length ((L.map fun i : Nat => (i : Int)).flatMap encI1) ∧ BstW l fr k0 s L ∧ Below w.heap.size w w' := by
  obtain ⟨i1, hi1, hy0, hy1, hy2⟩ := info_parts infoIntU
  have hsl : s < l.length := by have := hR.hi; omega
  obtain ⟨vs', hvs, hS⟩ := h
  simp only [Value.agg.injEq, Array.mk.injEq, List.cons.injEq, and_true, true_and] at hvs
  subst hvs
  obtain ⟨a, cap, rfl, hc⟩ := hS.get
  have HC : Hid (∀ j, j < l.length → ∃ b off va, a = some ⟨b, off, none⟩ ∧ b < w.heap.size ∧ w.cell? ⟨b, off + j * 2, none⟩ = some (.int .i64 (el l j).1) ∧ w.cell? ⟨b, off + j * 2 + 1, none⟩ = some va ∧ Arcs w va (el l j).2) := hc
  have HR := hidP hR
  have HKT := hidP hT
  have HF := hidP hF
  have HLF := hidP hl
  have HKL := hidP hks
  have HK0 := hidP hk0l
  have HI0 : Hid (AlgI l fr s k0 s k0 []) := ⟨hsl, hk0, hk0l, hf, fun L hL => hL⟩
  have HK2 : Hid (∀ t k, AlgI l fr s k0 t k [] → True) := fun _ _ _ => trivial
  have hN60 := hR.few
  clear hS hc hR hT hF hl hks hk0 hf HK2
  generalize hn : l.length = N at *
  have HN := hidP hn
  clear hn
  go_enter Try.func32, Try.ntmps32
  go_wp2
  go_step3
  go_wp2
  go_step3
  go_wp2
  go_loopw [5, 6] (fun s5 s6 wr => ∃ (t k : Nat) (D : List Nat) (vo : Value), vo = s5 ∧ s6 = .int .i64 (t : Int) ∧ Hid (AlgI l fr s k0 t k D) ∧ Hid (D.length + k = k0) ∧ Hid (wr.ownsRow w.heap.size 3 1 vo (D.map fun i : Nat => (i : Int)).length ((D.map fun i : Nat => (i : Int)).flatMap encI1)) ∧ Hid (Blk wr w.heap.size #[.int .i64 (s : Int), .slice a N cap] 27) ∧ Hid (Below w.heap.size w wr)) (fun _ s6 _ => (kB (el ks (intOf s6).toNat)).toNat)
  case atStart => exact ⟨s, k0, [], _, rfl, rfl, HI0, by show _ = _; simp, World.ownsRow_nil _ _ _ _, Blk.made _ _ _, (Below.refl _ _).alloc (Nat.le_refl _) _⟩
  case round =>
    obtain ⟨t, k, D, vo, rfl, rfl, hI, hDk, hown, hbx, hb⟩ := hrel
    have htn : t < N := by have := hI.out.lt; rw [HN.out] at this; exact this
    obtain ⟨b, off, va, rfl, hbl, g0, g1, gA⟩ := HC.out t htn
    obtain ⟨a2, cap2, hva, hga⟩ := gA.get
    subst hva
    have g0 := (hb.out.cell (p := ⟨b, off + t * 2, none⟩) hbl).trans g0
    have g1 := (hb.out.cell (p := ⟨b, off + t * 2 + 1, none⟩) hbl).trans g1
    have HGA := hidP hga
    have m1 := hbx.out.cell 1 (v := .slice (some ⟨b, off, none⟩) N cap) rfl
    have hL400 := HR.out.arcs t (by rw [HN.out]; exact htn)
    have hq0 : (0 : Int) ≤ (t : Int) := by omega
    have hq1 : (t : Int) < (N : Int) := by omega
    have HQ : Hid (el ks t = el fr t * 2147483648 + (k : Int)) := by
      rcases HLF.out t htn with ⟨h0, _⟩ | ⟨_, k2, _, h1, h2⟩
      · exact absurd h0 hI.out.fin
      · have := h1.one hI.out.len
        subst this
        exact h2
    have HMS : Hid ((kB (el ks (intOf (.int .i64 (t : Int))).toNat)).toNat = k) := by
      show (kB (el ks (t : Int).toNat)).toNat = k
      rw [Int.toNat_natCast, HQ.out]
      have := hI.out.kl
      have := HR.out.few
      unfold kB
      omega
    have HAR : Hid (∀ i, i < (el l t).2.length → ∃ u : Nat, (el (el l t).2 i).2.2.2 = (u : Int) ∧ u < N ∧ (bothK ((el (el l t).2 i).2.2.1 * 2147483648 + 1) (el ks u) = el ks t ↔ TgA fr t (el (el l t).2 i) ∧ ∃ j, k = j + 1 ∧ LenA l fr u j) ∧ KeyOk ((el (el l t).2 i).2.2.1 * 2147483648 + 1) ∧ KeyOk (el ks u)) := fun i hi => by
      have hm := el_mem hi
      obtain ⟨w0, w1, u, e, hu⟩ := HR.out.rgt.arc t (by rw [HN.out]; exact htn) _ hm
      have hlu := HLF.out u (by rw [← HN.out]; exact hu)
      refine ⟨u, e, by rw [← HN.out]; exact hu, left_arc HR.out.rgt (Nat.le_trans HR.out.few (by decide)) HF.out (by rw [HN.out]; exact htn) hm e hlu hI.out.len HQ.out hI.out.fin (by have := hI.out.kl; exact this), .inr ?_, ?_⟩
      · unfold kA kB; omega
      · rcases hlu with ⟨_, h1⟩ | ⟨h0, k2, hk2, _, h1⟩
        · exact .inl h1
        · have r := frt_rng HF.out hu
          have := HR.out.few
          refine .inr ?_
          rw [h1]
          unfold kA kB
          omega
    have HFI := hidP hI.out
    generalize hL : (el l t).2.length = L at *
    have HL := hidP hL
    clear hL gA hga
    go_wp2
    obtain ⟨wo, hwo⟩ : ∃ wo : World, wo = wr := ⟨_, rfl⟩
    subst hwo
    clear g0 g1 m1
    go_loopw [5, 6, 18] (fun s5 s6 i wr => ∃ (j : Nat), vo = s5 ∧ s6 = .int .i64 (t : Int) ∧ j ≤ L ∧ i = .int .i64 (j : Int) ∧ Hid (∀ i, i < j → ∀ u : Nat, (el (el l t).2 i).2.2.2 = (u : Int) → ¬ (TgA fr t (el (el l t).2 i) ∧ ∃ j, k = j + 1 ∧ LenA l fr u j)) ∧ Hid (Below wo.heap.size wo wr)) (fun _ _ i _ => L - (intOf i).toNat)
    case atStart => exact ⟨0, rfl, rfl, Nat.zero_le _, rfl, fun i hi => absurd hi (by omega), Below.refl _ _⟩
    case round =>
      obtain ⟨j, rfl, rfl, hj, rfl, hno, hb2⟩ := hrel
      by_cases hjL : j < L
      · obtain ⟨b3, off3, rfl, hb3l, e0, e1, e2, e3⟩ := HGA.out j hjL
        have hbw := hidP (hb.out.trans (hb2.out.mono hb.out.size))
        have e0 := (hbw.out.cell (p := ⟨b3, off3 + j * 4, none⟩) hb3l).trans e0
        have e1 := (hbw.out.cell (p := ⟨b3, off3 + j * 4 + 1, none⟩) hb3l).trans e1
        have e2 := (hbw.out.cell (p := ⟨b3, off3 + j * 4 + 2, none⟩) hb3l).trans e2
        have e3 := (hbw.out.cell (p := ⟨b3, off3 + j * 4 + 3, none⟩) hb3l).trans e3
        obtain ⟨u, hu, hun, hiff, ho1, ho2⟩ := HAR.out j hjL
        have HIF := hidP hiff
        have HBO := hidP (fun W => both_any _ _ W ho1 ho2)
        have HU := hidP hu
        rw [arcK] at HBO
        unfold kV at HBO
        rw [hu] at e3
        have hj0 : (0 : Int) ≤ (j : Int) := by omega
        have hj1 : (j : Int) < (L : Int) := by omega
        have hu0 : (0 : Int) ≤ (u : Int) := by omega
        have hu1 : (u : Int) < (N : Int) := by omega
        have K0 := hidP (HKT.out.below hbw.out (Blk.lt HKT.out))
        have O0 := hidP (ownBelow hown.out hb2.out)
        have M0 := hidP (hbx.out.below hb2.out hbx.out.lt)
        generalize (el (el l t).2 j).1 = x0 at *
        generalize (el (el l t).2 j).2.1 = x1 at *
        generalize hx2 : (el (el l t).2 j).2.2.1 = x2 at *
        have A1 := hidP (Blk.made wr #[.int .i64 x0, .int .i64 x1, .int .i64 x2, .int .i64 (u : Int)] 58)
        have K1 : Hid (KeyT (wr.alloc (.cells #[.int .i64 x0, .int .i64 x1, .int .i64 x2, .int .i64 (u : Int)] 58)) T ks) := Blk.alloc K0.out _
        have O1 := hidP (O0.out.alloc (.cells #[.int .i64 x0, .int .i64 x1, .int .i64 x2, .int .i64 (u : Int)] 58))
        have M1 := hidP (M0.out.alloc (.cells #[.int .i64 x0, .int .i64 x1, .int .i64 x2, .int .i64 (u : Int)] 58))
        have B1 := hidP (hbw.out.alloc hbw.out.size (.cells #[.int .i64 x0, .int .i64 x1, .int .i64 x2, .int .i64 (u : Int)] 58))
        have B21 := hidP (hb2.out.alloc hb2.out.size (.cells #[.int .i64 x0, .int .i64 x1, .int .i64 x2, .int .i64 (u : Int)] 58))
        clear hiff ho1 ho2 hu hx2
        go_wp2
        generalize wr.alloc (.cells #[.int .i64 x0, .int .i64 x1, .int .i64 x2, .int .i64 (u : Int)] 58) = W1 at *
        generalize wr.heap.size = X at *
        have HS : HeldAl X x0 x1 x2 u T u t (kA (el ks u)) (kB (el ks u)) (kA (el ks t)) (kB (el ks t)) W1.drew := HeldAl.mk' A1.out.drew (Blk.drew K1.out) (by rw [HKL.out]; exact hun) (by rw [HKL.out]; exact htn)
        clear e0 e1 e2 e3
        have HKE := hidP (key_eq (bothK (x2 * 2147483648 + 1) (el ks u)) (el ks t))
        have HHS : Hid (∀ W, Below W1.heap.size W1 W → HeldAl X x0 x1 x2 u T u t (kA (el ks u)) (kB (el ks u)) (kA (el ks t)) (kB (el ks t)) W) := fun W hW => HeldAl.mk' (A1.out.below hW A1.out.lt) (K1.out.below hW (Blk.lt K1.out)) (by rw [HKL.out]; exact hun) (by rw [HKL.out]; exact htn)
        generalize kA (bothK (x2 * 2147483648 + 1) (el ks u)) = za at *
        generalize kB (bothK (x2 * 2147483648 + 1) (el ks u)) = zb at *
        generalize kA (el ks u) = ua at *
        generalize kB (el ks u) = ub at *
        generalize kA (el ks t) = ta at *
        generalize kB (el ks t) = tb at *
        refine region_anyL (HeldAl X x0 x1 x2 u T u t ua ub ta tb) 1000 (by kernel_rfl) ?_
        refine anyL_tk (i := 0) (v := ?v0_1) aZ0 (by kernel_rfl) ?y0_1 HS ?r0_1
        case y0_1 => intro wx hx; obtain ⟨h0, h1, h2, h3, h4, h5, h6, h7⟩ := hx; go_simp; try (with_reducible rfl)
        simp only [Act.put, List.setIfInBounds_toArray, List.set_cons_zero, List.set_cons_succ]
        refine anyL_tk (i := 2) (v := ?v2_2) aZ2 (by kernel_rfl) ?y2_2 HS ?r2_2
        case y2_2 => intro wx hx; obtain ⟨h0, h1, h2, h3, h4, h5, h6, h7⟩ := hx; go_simp; try (with_reducible rfl)
        simp only [Act.put, List.setIfInBounds_toArray, List.set_cons_zero, List.set_cons_succ]
        refine anyL_tk (i := 3) (v := ?v3_3) aZ3 (by kernel_rfl) ?y3_3 HS ?r3_3
        case y3_3 => intro wx hx; obtain ⟨h0, h1, h2, h3, h4, h5, h6, h7⟩ := hx; go_simp; try (with_reducible rfl)
        simp only [Act.put, List.setIfInBounds_toArray, List.set_cons_zero, List.set_cons_succ]
        refine anyL_tk (i := 4) (v := ?v4_4) aZ4 (by kernel_rfl) ?y4_4 HS ?r4_4
        case y4_4 => intro wx hx; obtain ⟨h0, h1, h2, h3, h4, h5, h6, h7⟩ := hx; go_simp; try (with_reducible rfl)
        simp only [Act.put, List.setIfInBounds_toArray, List.set_cons_zero, List.set_cons_succ]
        refine anyL_tk (i := 5) (v := ?v5_5) aZ5 (by kernel_rfl) ?y5_5 HS ?r5_5
        case y5_5 => intro wx hx; obtain ⟨h0, h1, h2, h3, h4, h5, h6, h7⟩ := hx; go_simp; try (with_reducible rfl)
        simp only [Act.put, List.setIfInBounds_toArray, List.set_cons_zero, List.set_cons_succ]
        refine anyL_tk (i := 6) (v := ?v6_6) aZ6 (by kernel_rfl) ?y6_6 HS ?r6_6
        case y6_6 => intro wx hx; obtain ⟨h0, h1, h2, h3, h4, h5, h6, h7⟩ := hx; go_simp; try (with_reducible rfl)
        simp only [Act.put, List.setIfInBounds_toArray, List.set_cons_zero, List.set_cons_succ]
        refine anyL_tk (i := 8) (v := ?v8_7) aZ8 (by kernel_rfl) ?y8_7 HS ?r8_7
        case y8_7 => intro wx hx; obtain ⟨h0, h1, h2, h3, h4, h5, h6, h7⟩ := hx; go_simp; try (with_reducible rfl)
        simp only [Act.put, List.setIfInBounds_toArray, List.set_cons_zero, List.set_cons_succ]
        refine anyL_tk (i := 9) (v := ?v9_8) aZ9 (by kernel_rfl) ?y9_8 HS ?r9_8
        case y9_8 => intro wx hx; obtain ⟨h0, h1, h2, h3, h4, h5, h6, h7⟩ := hx; go_simp; try (with_reducible rfl)
        simp only [Act.put, List.setIfInBounds_toArray, List.set_cons_zero, List.set_cons_succ]
        refine anyL_tk (i := 10) (v := ?v10_9) aZ10 (by kernel_rfl) ?y10_9 HS ?r10_9
        case y10_9 => intro wx hx; obtain ⟨h0, h1, h2, h3, h4, h5, h6, h7⟩ := hx; go_simp; try (with_reducible rfl)
        simp only [Act.put, List.setIfInBounds_toArray, List.set_cons_zero, List.set_cons_succ]
        refine anyL_tk (i := 11) (v := ?v11_10) aZ11 (by kernel_rfl) ?y11_10 HS ?r11_10
        case y11_10 => intro wx hx; obtain ⟨h0, h1, h2, h3, h4, h5, h6, h7⟩ := hx; go_simp; try (with_reducible rfl)
        simp only [Act.put, List.setIfInBounds_toArray, List.set_cons_zero, List.set_cons_succ]
        refine anyL_one (i := 1) aZ1 (by kernel_rfl) rfl (fun K hK => ?_)
        go_simp
        with_reducible refine (byArc_any _ _ _ _ _).mono ?_
        rintro e w5 ⟨rfl, hb5⟩
        have C5 := hidP ((Below.refl _ W1).drew.trans hb5)
        have HS5 := HHS.out w5 C5.out
        clear hb5
        refine hK _ _ (.inr HS5) ?_
        try simp only [Act.put, List.setIfInBounds_toArray, List.set_cons_zero, List.set_cons_succ]
        refine anyL_one (i := 7) aZ7 (by kernel_rfl) rfl (fun K hK => ?_)
        go_simp
        with_reducible refine (HBO.out _).mono ?_
        rintro e w6 ⟨rfl, hb6⟩
        have C6 := hidP (C5.out.trans (hb6.mono C5.out.size))
        have HS6 := HHS.out w6 C6.out
        clear hb6
        refine hK _ _ (.inr HS6) ?_
        try simp only [Act.put, List.setIfInBounds_toArray, List.set_cons_zero, List.set_cons_succ]
        refine anyL_one (i := 12) aZ12 (by kernel_rfl) rfl (fun K hK => ?_)
        go_simp
        have O6 := hidP (ownBelow O1.out C6.out)
        have M6 := hidP (M1.out.below C6.out M1.out.lt)
        have A6 := hidP (A1.out.below C6.out A1.out.lt)
        have B6 := hidP (B1.out.trans (C6.out.mono B1.out.size))
        have B26 := hidP (B21.out.trans (C6.out.mono B21.out.size))
        by_cases hm : za = ta ∧ zb = tb
        · rw [iteA hm]
          have HGT := hidP (HIF.out.1 (HKE.out.2 hm))
          go_simp
          refine hK _ _ (.inr HS6) (anyL_done (by kernel_rfl) (NoPanic.normal ?_))
          try simp only [Act.put, List.setIfInBounds_toArray, List.set_cons_zero, List.set_cons_succ]
          clear HS HS5 HS6 hm HKE HHS
          obtain ⟨hg, k2, hk2, hL2⟩ := HGT.out
          have HNX : Hid (AlgI l fr s k0 u k2 (D ++ [j])) := by
            have h9 := HFI.out
            rw [hk2] at h9
            refine h9.next (by rw [HL.out]; exact hjL) HU.out (by rw [HN.out]; exact hun) hg hL2 fun i hi hc => ?_
            obtain ⟨u2, e2, _⟩ := HAR.out i (by omega)
            exact hno.out i hi u2 e2 ⟨hc.1, k2, hk2, by rw [← Int.toNat_natCast u2, ← e2]; exact hc.2⟩
          have HM2 : Hid ((kB (el ks (intOf (.int .i64 (u : Int))).toNat)).toNat = k2) := by
            show (kB (el ks (u : Int).toNat)).toNat = k2
            rw [Int.toNat_natCast]
            rcases HLF.out u hun with ⟨h0, _⟩ | ⟨_, k3, _, h1, h2⟩
            · exact absurd h0 HNX.out.fin
            · have e9 := h1.one HNX.out.len
              subst e9
              have h8 := HNX.out.kl
              have h7 := HR.out.few
              rw [h2]
              unfold kB
              omega
          have HK2 : Hid ((D ++ [j]).length + k2 = k0) := by have h9 := hDk.out; show _ = _; rw [List.length_append]; simp; omega
          have HMP : Hid ((D ++ [j]).map (fun i : Nat => (i : Int)) = D.map (fun i : Nat => (i : Int)) ++ [(j : Int)]) := by show _ = _; simp
          have HLD : Hid ((D.map fun i : Nat => (i : Int)).length ≤ 1000) := by
            have h9 := hDk.out
            have h8 := HNX.out.kl
            have h7 := HR.out.few
            show _ ≤ _
            rw [List.length_map]
            have h6 := HK0.out
            omega
          have HK9 := hidP hk2
          clear HGT hg hL2 hk2
          generalize D.map (fun i : Nat => (i : Int)) = ds at *
          have hdl : ds.length ≤ 1000 := HLD.out
          have e3 := A6.out.cell 3 (v := .int .i64 (u : Int)) rfl
          go_wp2_with (first
            | (at_builtin; refine wpList_append_rows encI1_len (by decide) encI1_one rfl _ _ 34 rfl w.heap.size 3 i1 _ 8 Try.underlying34 hi1 hy0 hy1 hy2 rfl _ ds.length (ds.flatMap encI1) rfl (O6.out.alloc _) _ [(j : Int)] rfl (by have h9 := oneRow (enc := encI1) w6 (j : Int) rfl 3; exact h9) (by simp; unfold maxLen; omega) (by simp; omega) (by have := B6.out.size; simp at this ⊢; omega) ?_; intro v4 w4 ho4 hg4; have HM4 := hidP (((M6.out.alloc (.cells (encI1 (j : Int)).toArray 3)).grown hg4 (own_ne (O6.out.alloc (.cells (encI1 (j : Int)).toArray 3)) (M6.out.alloc (.cells (encI1 (j : Int)).toArray 3)) (by decide)))); have HA4 := hidP (((A6.out.alloc (.cells (encI1 (j : Int)).toArray 3)).grown hg4 (own_ne (O6.out.alloc (.cells (encI1 (j : Int)).toArray 3)) (A6.out.alloc (.cells (encI1 (j : Int)).toArray 3)) (by decide)))); have e4 := HA4.out.cell 3 (v := .int .i64 (u : Int)) rfl; obtain ⟨HO4, HB4, HZ4⟩ := snocFacts O6.out B6.out.size ho4 hg4; clear ho4 hg4))
          go_roundw
          case rel => exact ⟨u, k2, D ++ [j], _, rfl, rfl, HNX, HK2, by rw [HMP.out]; exact HO4, HM4, B6.out.trans HB4.out⟩
          case measure =>
            have h9 := HK9.out
            rw [HM2.out, HMS.out]
            omega
        · rw [iteB hm]
          have HGF := hidP (fun h => hm (HKE.out.1 (HIF.out.2 h)))
          go_simp
          refine hK _ _ (.inr HS6) (anyL_done (by kernel_rfl) (NoPanic.normal ?_))
          try simp only [Act.put, List.setIfInBounds_toArray, List.set_cons_zero, List.set_cons_succ]
          clear HS HS5 HS6 hm HKE HHS
          have HNO2 : Hid (∀ i, i < j + 1 → ∀ u : Nat, (el (el l t).2 i).2.2.2 = (u : Int) → ¬ (TgA fr t (el (el l t).2 i) ∧ ∃ j, k = j + 1 ∧ LenA l fr u j)) := fun i hi u2 e2 => by
            rcases Nat.lt_or_ge i j with g | g
            · exact hno.out i g u2 e2
            · have e : i = j := by omega
              subst e
              have e5 : u2 = u := by have := HU.out; omega
              subst e5
              exact HGF.out
          go_wp2
          go_roundw
          case rel => exact ⟨j + 1, rfl, rfl, by omega, by go_num, HNO2, B26⟩
          case measure => simp [intOf]; omega
      · have hnl : ¬ (j : Int) < (L : Int) := by omega
        have HKZ : Hid (k = 0) := by
          show k = 0
          cases k with
          | zero => rfl
          | succ k2 =>
            obtain ⟨i, hi, h1, h2⟩ := HFI.out.len.arc
            rw [HL.out] at hi
            obtain ⟨u2, e2, _⟩ := HAR.out i hi
            exact absurd ⟨h1, k2, rfl, by rw [← Int.toNat_natCast u2, ← e2]; exact h2⟩ (hno.out i (by omega) u2 e2)
        have HBW : Hid (BstW l fr k0 s D) := by
          have h9 := HFI.out.pre []
          rw [HKZ.out, List.append_nil] at h9
          exact h9 .nil
        have HNU := hidP (ownBelow hown.out hb2.out)
        have HBB := hidP (hb.out.trans (hb2.out.mono hb.out.size))
        go_wp2
        try rw [Exit.noGoto_ret]
        go_ret
        exact ⟨_, _, rfl, HNU.out, HBW.out, HBB.out⟩
end Go.Proofs.Ytfpibdaedfilaaa.Bw
namespace Go.Proofs.Ytfpibdaedfilaaa.Wt
open Go.ChangeShapes Go.WideShapes Go.ChangeAt Go.RowKit
open Go.Proofs.Ytfpibdaedfilaaa.Pl
set_option linter.unusedVariables false
def PthRes (Q : Int → List Nat → Int → Prop) (w : World) (e : Ending) (w' : World) : Prop := ∃ va L, ∃ wt ec : Int, e = .returned (.tuple #[.agg #[.int .i64 wt, va], .int .i64 ec]) ∧ Q wt L ec ∧ Nums w' va (L.map fun i : Nat => (i : Int)) ∧ Below w.heap.size w w'
theorem nums_nil (w : World) : Nums w (.slice none 0 0) (([] : List Nat).map fun i : Nat => (i : Int)) := .inl ⟨rfl, rfl⟩
end Go.Proofs.Ytfpibdaedfilaaa.Wt
namespace Go.Proofs.Ytfpibdaedfilaaa.Bw
open Go.ChangeShapes Go.WideShapes Go.ChangeAt Go.RowKit
open Go.Proofs.Ytfpibdaedfilaaa.Pl Go.Proofs.Ytfpibdaedfilaaa.Wt
set_option linter.unusedVariables false
set_option linter.unusedSimpArgs false
theorem res_best (tm : Array Value) (W : World) (R : Nat) (ec : Int) (x0 x1 : Value) (hB : Blk W R #[x0, x1] 40) (h2 : tm.getD 2 undef = .pointer (some ⟨R, 0, none⟩)) (h3 : tm.getD 3 undef = .int .i64 ec) : (results Try.f14 tm).run Try.prog W = .ok (.tuple #[.agg #[x0, x1], .int .i64 ec]) W := by
 have c0 := hB.cell 0 (v := x0) rfl
 have c1 := hB.cell 1 (v := x1) rfl
 simp only [Array.getD_eq_getD_getElem?] at h2 h3
 simp [results, Try.results14, go_sem, h2, h3, c0, c1]
theorem best_cases {m : Mc} {x ec : Int} (h : LpaAns m x ec) : (ec ≠ 0 ∧ BestAns m 0 [] ec) ∨ (ec = 0 ∧ x = 1000000001 ∧ BestAns m 0 [] 12) ∨ (ec = 0 ∧ x ≠ 1000000001 ∧ faultM m = 0 ∧ 0 ≤ m.1 ∧ ∃ vs, DstAns m (EndC m.2) vs 0 ∧ x = el vs m.1.toNat ∧ FrT m.2 vs ∧ ∃ k, k < m.2.length ∧ LenA m.2 vs m.1.toNat k ∧ ∀ L, BstW m.2 vs k m.1.toNat L → BestAns m x L 0) := by
 obtain ⟨vs, f, hd, h⟩ := h
 rcases h with ⟨h0, rfl, rfl⟩ | ⟨rfl, rfl, hx⟩
 ·exact .inl ⟨h0, vs, ec, hd, .inl ⟨h0, rfl, rfl, rfl⟩⟩
 ·have hf : faultM m = 0 := by
   rcases hd with ⟨h0, _, h1⟩ | ⟨h0, _⟩
   ·exact absurd h1.symm h0
   ·exact h0
  have hF := frt_of hf hd
  by_cases hz : m.1 < 0
  ·rw [if_pos hz] at hx
   exact .inr (.inl ⟨rfl, hx, vs, 0, hd, .inr (.inl ⟨rfl, .inl hz, rfl, rfl, rfl⟩)⟩)
  ·rw [if_neg hz] at hx
   by_cases h1 : x = 1000000001
   ·exact .inr (.inl ⟨rfl, h1, vs, 0, hd, .inr (.inl ⟨rfl, .inr (hx.symm.trans h1), rfl, rfl, rfl⟩)⟩)
   ·have hR := RgtM.of hf
    have hi := hR.hi
    have hne : el vs m.1.toNat ≠ 1000000001 := fun e => h1 (hx.trans e)
    obtain ⟨k, hk, hL⟩ := len_exists hF hR.rgt.to (fun q hq a ha => (hR.rgt.arc q hq a ha).1) (fun q hq => (hR.rgt.fin q hq).1) (show m.1.toNat < m.2.length by omega) hne
    exact .inr (.inr ⟨rfl, h1, hf, by omega, vs, hd, hx, hF, k, hk, hL, fun L hB => ⟨vs, 0, hd, .inr (.inr ⟨rfl, by omega, hne, hx, rfl, k, hL, hB⟩)⟩⟩)
set_option maxRecDepth 100000 in
set_option maxHeartbeats 6400000 in
theorem bestP_any (v : Value) (m : Mc) (w : World) (h : Mach w v m) (hok : okM m) :
  Calls Try.prog 14 #[v] w fun e w' => PthRes (BestAns m) w e w' := by
 obtain ⟨z, l⟩ := m
 have HM : Hid (Mach w v (z, l)) := h
 obtain ⟨vs, rfl, hS⟩ := h
 obtain ⟨a, cap, rfl⟩ := hS.sl
 generalize hl : l.length = N at *
 have HL := hidP hl
 have HK := hidP hok
 have HX : Hid (∀ W, Below w.heap.size w W → Mach W (.agg #[.int .i64 z, .slice a N cap]) (z, l)) := fun W hW => HM.out.later hW (Nat.le_refl _)
 have HLE : Hid (∀ W, Below w.heap.size w W → Calls Try.prog 12 #[.agg #[.int .i64 z, .slice a N cap]] W fun e w' => ∃ x ec : Int, e = .returned (.tuple #[.int .i64 x, .int .i64 ec]) ∧ LpaAns (z, l) x ec ∧ Below W.heap.size W w') := fun W hW => leastP_any _ (z, l) W (HX.out W hW) HK.out
 have HCS : Hid (∀ x ec, LpaAns (z, l) x ec → _) := fun x ec h => best_cases h
 clear hS hok hl
 go_enter Try.func14, Try.ntmps14
 go_wp2_with (first
  | (go_at_call 12; ((with_reducible refine (HLE.out _ (by go_grown)).mono ?_); rintro e w1 ⟨x, ec, rfl, hA, hb⟩; have X1 := hidP (((Blk.made w #[.int .i64 z, .slice a N cap] 27).alloc (.cells #[.int .i64 0, .slice none 0 0] 40)).below hb (by simp; omega)); have R1 := hidP ((Blk.made (w.alloc (.cells #[.int .i64 z, .slice a N cap] 27)) #[.int .i64 0, .slice none 0 0] 40).below hb (by simp)); have B1 := hidP ((((Below.refl w.heap.size w).alloc (Nat.le_refl _) (.cells #[.int .i64 z, .slice a N cap] 27)).alloc (by simp) (.cells #[.int .i64 0, .slice none 0 0] 40)).trans (hb.mono (by simp; omega))); rw [World.size_alloc] at R1; have c0 := R1.out.cell 0 (v := .int .i64 0) rfl; have c1 := R1.out.cell 1 (v := .slice none 0 0) rfl; have f0 := R1.out.fz 0; have f1 := R1.out.fz 1; have x0 := X1.out.cell 0 (v := .int .i64 z) rfl; have x1 := X1.out.cell 1 (v := .slice a N cap) rfl; have HC := hidP (HCS.out x ec hA); clear hA hb; rcases HC.out with ⟨he, hB⟩ | ⟨rfl, rfl, hB⟩ | ⟨rfl, hne, _⟩)))
 ·have RR := (R1.out.set 0 (.int .i64 0)).set 1 (.slice none 0 0)
  exact bodyPost_ret (res_best _ _ (w.heap.size + 1) ec (.int .i64 0) (.slice none 0 0) RR rfl rfl) rfl ⟨_, [], 0, ec, rfl, hB, nums_nil _, (B1.out.setCell (p := ⟨w.heap.size + 1, 0, none⟩) (Nat.le_succ _) _).setCell (p := ⟨w.heap.size + 1, 1, none⟩) (Nat.le_succ _) _⟩
 ·have RR := (R1.out.set 0 (.int .i64 0)).set 1 (.slice none 0 0)
  exact bodyPost_ret (res_best _ _ (w.heap.size + 1) 12 (.int .i64 0) (.slice none 0 0) RR rfl rfl) rfl ⟨_, [], 0, 12, rfl, hB, nums_nil _, (B1.out.setCell (p := ⟨w.heap.size + 1, 0, none⟩) (Nat.le_succ _) _).setCell (p := ⟨w.heap.size + 1, 1, none⟩) (Nat.le_succ _) _⟩
 ·rcases HC.out with ⟨he, _⟩ | ⟨_, he, _⟩ | ⟨_, _, hf, hz0, vs, hd, hxv, hF, k, hk, hLk, hB⟩
  ·exact absurd rfl he
  ·exact absurd he hne
  ·obtain ⟨s, rfl⟩ : ∃ s : Nat, z = (s : Int) := ⟨z.toNat, by have hz1 : 0 ≤ z := hz0; omega⟩
   simp only [Int.toNat_natCast] at hxv hLk hB
   have HRM := hidP (RgtM.of (m := ((s : Int), l)) hf)
   have hne2 : el vs s ≠ 1000000001 := by rw [← hxv]; exact hne
   have HFF := hidP hF
   have HBB := hidP hB
   have HKK := hidP (And.intro hLk (And.intro hk hne2))
   clear HC hf hz0 hd hF hk hLk hB hne2 hxv c0 c1 x0 x1
   have W1B : Hid (Below w.heap.size w w1.drew) := B1.out.drew
   have X1 := hidP X1.out.drew
   have R1 := hidP R1.out.drew
   have HTE := hidP (fun W (hW : Below w.heap.size w W) => toEnd_any (s : Int) (.slice a N cap) l W (HX.out W hW) HRM.out)
   rw [HL.out] at HTE
   have HS : HeldPm w.heap.size s (.slice a N cap) w1.drew := ⟨X1.out.cell 0 rfl, X1.out.cell 1 rfl⟩
   have HTE1 := hidP (HTE.out w1.drew W1B.out)
   refine region_anyL (HeldPm w.heap.size s (.slice a N cap)) 1000 (by kernel_rfl) ?_
   refine anyL_tk (i := 0) (v := ?v0_1) aZ0 (by kernel_rfl) ?y0_1 HS ?r0_1
   case y0_1 => intro wx hx; obtain ⟨h0, h1⟩ := hx; go_simp; try (with_reducible rfl)
   simp only [Act.put, List.setIfInBounds_toArray, List.set_cons_zero, List.set_cons_succ]
   refine anyL_tk (i := 1) (v := ?v1_2) aZ1 (by kernel_rfl) ?y1_2 HS ?r1_2
   case y1_2 => intro wx hx; obtain ⟨h0, h1⟩ := hx; go_simp; try (with_reducible rfl)
   simp only [Act.put, List.setIfInBounds_toArray, List.set_cons_zero, List.set_cons_succ]
   refine anyL_tk (i := 2) (v := ?v2_3) aZ2 (by kernel_rfl) ?y2_3 HS ?r2_3
   case y2_3 => intro wx hx; obtain ⟨h0, h1⟩ := hx; go_simp; try (with_reducible rfl)
   simp only [Act.put, List.setIfInBounds_toArray, List.set_cons_zero, List.set_cons_succ]
   refine anyL_one (i := 3) aZ3 (by kernel_rfl) rfl (fun K hK => ?_)
   go_simp
   with_reducible refine HTE1.out.mono ?_
   rintro e w2 ⟨T, ks, F, rfl, hKT, hkl, hkf, hCk, hTl, hb2⟩
   have X2 := hidP (X1.out.below hb2 X1.out.lt)
   have R2 := hidP (R1.out.below hb2 R1.out.lt)
   have B2 := hidP (W1B.out.trans (hb2.mono W1B.out.size))
   have HNB : Hid (∀ r : Option Nat, (∀ b, r = some b → w2.heap.size ≤ b) → r = none ∨ r ≠ some (w.heap.size + 1)) := fun r hr => by
    rcases r with _ | b
    ·exact .inl rfl
    ·right
     intro e9
     have h1 := hr b rfl
     have h2 := R2.out.lt
     simp at e9
     omega
   have HS2 : HeldPm w.heap.size s (.slice a N cap) w2 := ⟨X2.out.cell 0 rfl, X2.out.cell 1 rfl⟩
   have hAL := along_any s (.slice a N cap) l T ks vs k w2 (HX.out w2 B2.out) HRM.out hKT (by rw [hkl, HL.out]) HFF.out (fun q hq => by
    rw [hkf q (by rw [← HL.out]; exact hq)]
    exact left_found HRM.out.rgt (Nat.le_trans HRM.out.few (by decide)) (by rw [HL.out]; exact hCk) HFF.out hq) HKK.out.1 HKK.out.2.1 HKK.out.2.2
   rw [HL.out] at hAL
   have HAL := hidP hAL
   clear hKT hkl hkf hCk hTl hb2 hAL HTE HTE1
   refine hK _ _ (.inr HS2) ?_
   try simp only [Act.put, List.setIfInBounds_toArray, List.set_cons_zero, List.set_cons_succ]
   refine anyL_one (i := 4) aZ4 (by kernel_rfl) rfl (fun K hK => ?_)
   go_simp
   with_reducible refine HAL.out.mono ?_
   rintro e w3 ⟨v3, L, rfl, hNu, hBw, hb3⟩
   have X3 := hidP (X2.out.below hb3 X2.out.lt)
   have R3 := hidP (R2.out.below hb3 R2.out.lt)
   have B3 := hidP (B2.out.trans (hb3.mono B2.out.size))
   have HAN := hidP (HBB.out L hBw)
   have HS3 : HeldPm w.heap.size s (.slice a N cap) w3 := ⟨X3.out.cell 0 rfl, X3.out.cell 1 rfl⟩
   have c0 := R3.out.cell 0 (v := .int .i64 0) rfl
   have c1 := R3.out.cell 1 (v := .slice none 0 0) rfl
   have f0 := R3.out.fz 0
   have f1 := R3.out.fz 1
   obtain ⟨a3, cap3, hv3⟩ := own_slW hNu
   rw [List.length_map] at hv3 hNu
   subst hv3
   have NU := hidP hNu
   clear hNu hBw hb3
   refine hK _ _ (.inr HS3) ?_
   try simp only [Act.put, List.setIfInBounds_toArray, List.set_cons_zero, List.set_cons_succ]
   refine anyL_tk (i := 5) (v := ?v5_4) aZ5 (by kernel_rfl) ?y5_4 HS3 ?r5_4
   case y5_4 => intro wx hx; obtain ⟨h0, h1⟩ := hx; go_simp; try (with_reducible rfl)
   simp only [Act.put, List.setIfInBounds_toArray, List.set_cons_zero, List.set_cons_succ]
   have R4 := hidP ((R3.out.set 0 (.int .i64 x)).set 1 (.slice a3 L.length cap3))
   have B4 := hidP ((B3.out.setCell (p := ⟨w.heap.size + 1, 0, none⟩) (Nat.le_succ _) (.int .i64 x)).setCell (p := ⟨w.heap.size + 1, 1, none⟩) (Nat.le_succ _) (.slice a3 L.length cap3))
   have X4 := (X3.out.setO ⟨w.heap.size + 1, 0, none⟩ (.int .i64 x) (Nat.ne_of_lt (Nat.lt_succ_self _))).setO ⟨w.heap.size + 1, 1, none⟩ (.slice a3 L.length cap3) (Nat.ne_of_lt (Nat.lt_succ_self _))
   have HS4 : HeldPm w.heap.size s (.slice a N cap) ((w3.setCell ⟨w.heap.size + 1, 0, none⟩ (.int .i64 x)).setCell ⟨w.heap.size + 1, 1, none⟩ (.slice a3 L.length cap3)) := ⟨X4.cell 0 rfl, X4.cell 1 rfl⟩
   have NU4 : Hid (Nums ((w3.setCell ⟨w.heap.size + 1, 0, none⟩ (.int .i64 x)).setCell ⟨w.heap.size + 1, 1, none⟩ (.slice a3 L.length cap3)) (.slice a3 L.length cap3) (L.map fun i : Nat => (i : Int))) := by
    have k1 := NU.out.kept (gSet w3 (w.heap.size + 1) 0 (.int .i64 x)) (HNB.out _ (fun b hb => ((NU.out.lt b hb).1)))
    have k2 := k1.kept (gSet _ (w.heap.size + 1) 1 (.slice a3 L.length cap3)) (HNB.out _ (fun b hb => ((NU.out.lt b hb).1)))
    exact Row.ofOwn encI1_len k2 (by rw [List.length_map])
   generalize L.length = ln at *
   refine anyL_one (i := 6) aZ6 (by kernel_rfl) rfl (fun K hK => ?_)
   go_simp
   refine hK _ _ (.inr HS4) ?_
   try simp only [Act.put, List.setIfInBounds_toArray, List.set_cons_zero, List.set_cons_succ]
   refine anyL_one (i := 7) aZ7 (by kernel_rfl) rfl (fun K hK => ?_)
   go_simp
   refine hK _ _ (.inr HS4) (anyL_done (by kernel_rfl) (NoPanic.normal ?_))
   try simp only [Act.put, List.setIfInBounds_toArray, List.set_cons_zero, List.set_cons_succ]
   clear HS HS2 HS3 HS4 X4
   go_wp2
   exact bodyPost_ret (res_best _ _ (w.heap.size + 1) 0 (.int .i64 x) _ R4.out rfl rfl) rfl ⟨_, L, x, 0, rfl, HAN.out, NU4.out, B4.out⟩
end Go.Proofs.Ytfpibdaedfilaaa.Bw
