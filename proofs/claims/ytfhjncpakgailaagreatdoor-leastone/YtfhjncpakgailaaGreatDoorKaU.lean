/- tropicakeep.doubled: each state twice, arcs leading to one or the other. -/
import Derived.Test.YtfhjncpakgailaaGreatDoorKad
import Derived.Test.YtfhjncpakgailaaGreatDoorKaT
import Derived.BigQuiet
import Derived.Deep.DeepCutAuto
namespace Go.Proofs.YtfhjncpakgailaaGreatDoor.Wt
open Go.ChangeShapes Go.WideShapes Go.ChangeAt Go.RowKit
open Go.Proofs.YtfhjncpakgailaaGreatDoor.Pl
set_option linter.unusedVariables false
set_option linter.unusedSimpArgs false
def HlfU (n : Nat) (l : List St) (q : Nat) (C : List St) : Prop := C.length = q ∧ ∀ j, j < q → (el C j).1 = (el l j).1 ∧ Al2 (DblA n) (el C j).2 (el l j).2
def HlfI (n : Nat) (l : List St) (h : Nat) (L : List St) : Prop := L.length = h * n ∧ ((h = 0 ∧ L = []) ∨ (h = 1 ∧ Hlf n l L) ∨ (h = 2 ∧ ∃ A B, L = A ++ B ∧ Hlf n l A ∧ Hlf n l B))
theorem HlfU.nil (n : Nat) (l : List St) : HlfU n l 0 [] := ⟨rfl, fun j hj => absurd hj (Nat.not_lt_zero _)⟩
theorem HlfU.snoc {n q : Nat} {l C : List St} (h : HlfU n l q C) {f : Int} {R : List Ar} (h1 : f = (el l q).1) (h2 : Al2 (DblA n) R (el l q).2) : HlfU n l (q + 1) (C ++ [(f, R)]) := by
 refine ⟨by simp [h.1], fun j hj => ?_⟩
 rcases Nat.lt_or_ge j q with x | x
 ·rw [el_appendL (by rw [h.1]; exact x)]; exact h.2 j x
 ·have e : j = C.length := by rw [h.1]; omega
  rw [e, el_appendE, h.1]; exact ⟨h1, h2⟩
theorem HlfU.done {n : Nat} {l C : List St} (hl : l.length = n) (h : HlfU n l n C) : Hlf n l C := ⟨by rw [h.1, hl], fun q hq => h.2 q (by omega)⟩
theorem HlfI.step {n h : Nat} {l L C : List St} (hl : l.length = n) (hh : h < 2) (k : HlfI n l h L) (g : HlfU n l n C) : HlfI n l (h + 1) (L ++ C) := by
 refine ⟨by rw [List.length_append, k.1, g.1, Nat.succ_mul], ?_⟩
 rcases k.2 with ⟨rfl, rfl⟩ | ⟨rfl, k1⟩ | ⟨rfl, _⟩
 ·exact .inr (.inl ⟨rfl, by simpa using g.done hl⟩)
 ·exact .inr (.inr ⟨rfl, L, C, rfl, k1, g.done hl⟩)
 ·omega
theorem HlfI.end {n : Nat} {z : Int} {l L : List St} (hl : l.length = n) (k : HlfI n l 2 L) : Dbl (z, l) (z, L) := by
 refine ⟨rfl, ?_⟩
 rcases k.2 with ⟨h, _⟩ | ⟨h, _⟩ | ⟨_, A, B, e, h1, h2⟩
 ·omega
 ·omega
 ·exact ⟨A, B, e, by rw [hl]; exact h1, by rw [hl]; exact h2⟩
theorem al2_snoc {P : Ar → Ar → Prop} : ∀ {l r : List Ar} {a b : Ar}, Al2 P l r → P a b → Al2 P (l ++ [a]) (r ++ [b])
 | _, _, _, _, .nil, h => .cons h .nil
 | _, _, _, _, .cons h1 h2, h => .cons h1 (al2_snoc h2 h)
theorem OwnArcs.setB {w : World} {base : Nat} {v : Value} {ar : List Ar} (h : OwnArcs w base v ar) {g : Nat} (hne : some g ≠ v.ownBlock) (o : Nat) (u : Value) : OwnArcs (w.setCell ⟨g, o, none⟩ u) base v ar := World.ownsRow.kept h (gSet w g o u) (.inr (Ne.symm hne))
theorem pk_two (n : Int) : pk n 2 = 1 ∨ pk n 2 = 0 := by
 have := pk_bd n 2 (by omega)
 omega
theorem res_dbl (tm : Array Value) (W : World) (R : Nat) (x0 x1 : Value) (hB : Blk W R #[x0, x1] 29) (h2 : tm.getD 4 undef = .pointer (some ⟨R, 0, none⟩)) : (results Tryz.f19 tm).run Tryz.prog W = .ok (.agg #[x0, x1]) W := by
 have c0 := hB.cell 0 (v := x0) rfl
 have c1 := hB.cell 1 (v := x1) rfl
 simp only [Array.getD_eq_getD_getElem?] at h2
 simp [results, Tryz.results19, go_sem, h2, c0, c1]
set_option maxRecDepth 100000 in
set_option maxHeartbeats 6400000 in
theorem doubled_ok (z : Int) (l : List St) (a at' : Option Addr) (cap ct : Nat) (zt : List Int) (w : World) (h : Mach w (.agg #[.int .i64 z, .slice a l.length cap]) (z, l)) (hr : faultM (z, l) = 0) (ht : Nums w (.slice at' zt.length ct) zt) (hwf : ∀ n ∈ zt, (Lit.int .i64 n).wf = true) :
  Calls Tryz.prog 19 #[.agg #[.int .i64 z, .slice a l.length cap], .slice at' zt.length ct] w fun e w' => ∃ v D, e = .returned v ∧ Dbl (z, l) D ∧ Mach w' v D ∧ Below w.heap.size w w' := by
 have h60 := (right_size hr).1
 have h60 : l.length ≤ 60 := h60
 have HZT : Hid (∀ j, j < zt.length → ∃ b off, at' = some ⟨b, off, none⟩ ∧ b < w.heap.size ∧ w.cell? ⟨b, off + j, none⟩ = some (.int .i64 (el zt j))) := by
  obtain ⟨a1, c1, e1, h1⟩ := ht.get
  simp only [Value.slice.injEq, true_and] at e1
  show ∀ _, _
  rw [e1.1]; exact h1
 have HPK : Hid (∀ j, j < zt.length → ∀ W, ∃ r : Int, (r = 1 ∨ r = 0) ∧ Calls Tryz.prog 37 #[.int .i64 (el zt j), .int .i64 2] W fun e w' => e = .returned (.int .i64 r) ∧ W = w') := fun j hj W => ⟨pk (el zt j) 2, pk_two _, picked_any _ 2 W (hwf _ (el_mem hj)) (by omega) (by omega)⟩
 obtain ⟨vs', hvs, hS⟩ := h
 simp only [Value.agg.injEq, Array.mk.injEq, List.cons.injEq, and_true, true_and] at hvs
 subst hvs
 obtain ⟨a0, cap0, hv0, hc⟩ := hS.get
 simp only [Value.slice.injEq, true_and] at hv0
 obtain ⟨rfl, rfl⟩ := hv0
 have HC : Hid (∀ j, j < l.length → ∃ b off va, a = some ⟨b, off, none⟩ ∧ b < w.heap.size ∧ w.cell? ⟨b, off + j * 2, none⟩ = some (.int .i64 (el l j).1) ∧ w.cell? ⟨b, off + j * 2 + 1, none⟩ = some va ∧ Arcs w va (el l j).2) := hc
 have HST : Hid (∀ j, j < l.length → finB (el l j).1 = true ∧ (el l j).2.length ≤ 400 ∧ ∀ p ∈ (el l j).2, 0 ≤ p.2.2.2 ∧ p.2.2.2 ≤ 1000) := right_states hr
 have HI0 : Hid (HlfI l.length l 0 []) := ⟨by simp, .inl ⟨rfl, rfl⟩⟩
 have HIS : Hid (∀ h L C, h < 2 → HlfI l.length l h L → HlfU l.length l l.length C → HlfI l.length l (h + 1) (L ++ C)) := fun h L C h1 h2 h3 => h2.step rfl h1 h3
 have HIE : Hid (∀ L, HlfI l.length l 2 L → Dbl (z, l) (z, L)) := fun L h => h.end rfl
 clear hS hc hr ht hwf
 generalize hn : l.length = n at *
 clear hn
 generalize hm : zt.length = m at *
 clear hm
 have KS := hidP ((Blk.made w #[.int .i64 z, .slice a n cap] 29).alloc (.cells #[.int .i64 0, .slice none 0 0] 29))
 have KR := hidP (Blk.made (w.alloc (.cells #[.int .i64 z, .slice a n cap] 29)) #[.int .i64 0, .slice none 0 0] 29)
 rw [World.size_alloc] at KR
 have HB1 : Hid (Below w.heap.size w ((w.alloc (.cells #[.int .i64 z, .slice a n cap] 29)).alloc (.cells #[.int .i64 0, .slice none 0 0] 29))) := ((Below.refl _ _).alloc (Nat.le_refl _) _).alloc (by simp) _
 go_enter Tryz.func19, Tryz.ntmps19
 go_upto_region 1 with fail
 generalize (w.alloc (.cells #[.int .i64 z, .slice a n cap] 29)).alloc (.cells #[.int .i64 0, .slice none 0 0] 29) = w1 at *
 have e0 := KS.out.cell 0 (v := .int .i64 z) rfl
 have e1 := KS.out.cell 1 (v := .slice a n cap) rfl
 have e2 := (KS.out.alloc (.cells #[.int .i64 z, .slice none 0 0] 29)).cell 1 (v := .slice a n cap) rfl
 have HOM : Hid (OwnSts (w1.alloc (.cells #[.int .i64 z, .slice none 0 0] 29)) w1.heap.size (.slice none 0 0) []) := OwnSts.nil _ _
 have HMM := hidP (Blk.made w1 #[.int .i64 z, .slice none 0 0] 29)
 have HBM : Hid (Below w1.heap.size w1 (w1.alloc (.cells #[.int .i64 z, .slice none 0 0] 29))) := (Below.refl _ _).alloc (Nat.le_refl _) _
 go_wp2
 go_loopw [7, 8] (fun s7 s8 wr => ∃ (kk hh : Nat) (av : Option Addr) (cv : Nat) (L : List St), s7 = .int .i64 kk ∧ s8 = .int .i64 hh ∧ kk ≤ 24000 * hh ∧ hh ≤ 2 ∧ Hid (HlfI n l hh L) ∧ Hid (Blk wr w1.heap.size #[.int .i64 z, .slice av L.length cv] 29) ∧ Hid (OwnSts wr w1.heap.size (.slice av L.length cv) L) ∧ Hid (Below w1.heap.size w1 wr)) (fun _ s8 _ => 2 - (intOf s8).toNat)
 case atStart => exact ⟨0, 0, _, _, [], by go_num, by go_num, Nat.zero_le _, Nat.zero_le _, HI0, HMM, HOM, HBM⟩
 case round =>
  obtain ⟨kk, hh, av0, cv0, L, rfl, rfl, hkk, hh2, hI, hm0, ho0, hb0⟩ := hrel
  clear HOM HMM HBM e0 e1 e2
  by_cases hlt : hh < 2
  ·have hlt' : (hh : Int) < 2 := by omega
   have HLL := hidP hI.out.1
   go_wp2
   obtain ⟨wh, hwh⟩ : ∃ wh, wh = wr := ⟨_, rfl⟩
   subst hwh
   go_loopw [7, 9] (fun s7 s9 wr => ∃ (k2 q : Nat) (av : Option Addr) (cv : Nat) (C M : List St), s7 = .int .i64 k2 ∧ s9 = .int .i64 q ∧ k2 ≤ 24000 * hh + 400 * q ∧ q ≤ n ∧ Hid (HlfU n l q C) ∧ Hid (M = L ++ C) ∧ Hid (Blk wr w1.heap.size #[.int .i64 z, .slice av M.length cv] 29) ∧ Hid (OwnSts wr w1.heap.size (.slice av M.length cv) M) ∧ Hid (Below w1.heap.size w1 wr)) (fun _ s9 _ => n - (intOf s9).toNat)
   case atStart => exact ⟨kk, 0, _, _, [], L, by go_num, by go_num, by omega, Nat.zero_le _, HlfU.nil n l, by (show _ = _); simp, hm0, ho0, hb0⟩
   case round =>
    obtain ⟨k2, i, av, cv, C, Lst, rfl, rfl, hk2, hi, hU, hMM, hm, ho, hb⟩ := hrel
    clear hm0 ho0 hb0
    have KSr := hidP (KS.out.below hb.out KS.out.lt)
    have d1 := KSr.out.cell 1 (v := .slice a n cap) rfl
    have HBw := hidP (HB1.out.trans (hb.out.mono HB1.out.size))
    have hsr := hb.out.size
    have hmlt := hm.out.lt
    by_cases hin : i < n
    ·have hin' : (i : Int) < (n : Int) := by omega
     have hi0 : (0 : Int) ≤ (i : Int) := by omega
     obtain ⟨b, off, va, rfl, hbl, y0, y1, gA⟩ := HC.out i hin
     obtain ⟨hfin, hal, hto⟩ := HST.out i hin
     have HTO : Hid (∀ p ∈ (el l i).2, 0 ≤ p.2.2.2 ∧ p.2.2.2 ≤ 1000) := hto
     have HLn : Hid (Lst.length ≤ 200) := by
      show _ ≤ _
      rw [hMM.out, List.length_append, HLL.out, hU.out.1]
      have : hh * n ≤ 1 * 60 := Nat.mul_le_mul (by omega) h60
      omega
     have HSN : Hid (∀ R, Al2 (DblA n) R (el l i).2 → HlfU n l (i + 1) (C ++ [((el l i).1, R)])) := fun R h => hU.out.snoc rfl h
     obtain ⟨a2, cap2, hva, hvx⟩ := gA.get
     subst hva
     have HGA : Hid (∀ W, Below w.heap.size w W → Arcs W (.slice a2 (el l i).2.length cap2) (el l i).2) := fun W hW => gA.later hW (Nat.le_refl _)
     have z0 := (HBw.out.cell (p := ⟨b, off + i * 2, none⟩) hbl).trans y0
     have z1 := (HBw.out.cell (p := ⟨b, off + i * 2 + 1, none⟩) hbl).trans y1
     clear gA hto hfin y0 hvx hU
     generalize (el l i).1 = fin at *
     generalize (el l i).2 = ar at *
     obtain ⟨n2, hn2⟩ : ∃ n2, ar.length = n2 := ⟨_, rfl⟩
     have HN2 := hidP hn2
     rw [hn2] at z1 y1 HGA hal
     clear hn2
     have d2 := (KSr.out.alloc (.cells #[.int .i64 fin, .slice none 0 0] 56)).cell 1 (v := .slice (some ⟨b, off, none⟩) n cap) rfl
     have z2 := ((HBw.out.alloc HBw.out.size (.cells #[.int .i64 fin, .slice none 0 0] 56)).cell (p := ⟨b, off + i * 2 + 1, none⟩) hbl).trans y1
     have HY1 := hidP y1
     clear y1
     go_wp2
     have HSB := hidP (Blk.made wr #[.int .i64 fin, .slice none 0 0] 56)
     have HOA : Hid (OwnArcs (wr.alloc (.cells #[.int .i64 fin, .slice none 0 0] 56)) (wr.heap.size + 1) (.slice none 0 0) []) := OwnArcs.nil _ _
     have HBI : Hid (Below wr.heap.size wr (wr.alloc (.cells #[.int .i64 fin, .slice none 0 0] 56))) := (Below.refl _ _).alloc (Nat.le_refl _) _
     obtain ⟨wq, rfl⟩ : ∃ wq, wq = wr := ⟨_, rfl⟩
     go_loopw [7, 11] (fun s7 s6 wr => ∃ (k3 j : Nat) (aj : Option Addr) (cj : Nat) (R : List Ar), s7 = .int .i64 k3 ∧ s6 = .int .i64 j ∧ k3 ≤ k2 + j ∧ j ≤ n2 ∧ Hid (Al2 (DblA n) R (ar.take j)) ∧ Hid (R.length = j) ∧ Hid (Blk wr wq.heap.size #[.int .i64 fin, .slice aj j cj] 56) ∧ Hid (OwnArcs wr (wq.heap.size + 1) (.slice aj j cj) R) ∧ Hid (Below wq.heap.size wq wr)) (fun _ s6 _ => n2 - (intOf s6).toNat)
     case atStart => exact ⟨k2, 0, _, _, [], by go_num, by go_num, Nat.le_refl _, Nat.zero_le _, Al2.nil, rfl, HSB, HOA, HBI⟩
     case round =>
      clear HSB HOA HBI z0 z1 d1 d2 z2
      obtain ⟨k3, j, aj, cj, cu, rfl, rfl, hk3, hj, hA2, hRL, hs, hoa, hbi⟩ := hrel
      have hsl := hs.out.lt
      have hsz := hbi.out.size
      have HBx := hidP (HBw.out.trans (hbi.out.mono HBw.out.size))
      have d1 := (KSr.out.below (hbi.out.mono (Nat.le_refl _)) KSr.out.lt).cell 1 (v := .slice (some ⟨b, off, none⟩) n cap) rfl
      have z1 := (HBx.out.cell (p := ⟨b, off + i * 2 + 1, none⟩) hbl).trans HY1.out
      by_cases hjn : j < n2
      ·have hjn' : (j : Int) < (n2 : Int) := by omega
       have hj0 : (0 : Int) ≤ (j : Int) := by omega
       obtain ⟨b3, off3, ha3, hb3, x0, x1, x2, x3⟩ := arcs_at (HGA.out w (Below.refl _ _)) (j := j) (by rw [HN2.out]; exact hjn)
       subst ha3
       have hp3 := HTO.out (el ar j) (el_mem (by rw [HN2.out]; exact hjn))
       have HA3 : Hid (∀ x, DblA n x (el ar j) → Al2 (DblA n) (cu ++ [x]) (ar.take (j + 1))) := fun x hx => by rw [take_el (by rw [HN2.out]; exact hjn)]; exact al2_snoc hA2.out hx
       clear hA2
       generalize el ar j = p at *
       obtain ⟨p0, p1, p2, p3⟩ := p
       simp only at x0 x1 x2 x3 hp3
       have HX1 : Hid (Al2 (DblA n) (cu ++ [(p0, p1, p2, p3)]) (ar.take (j + 1))) := HA3.out _ ⟨rfl, rfl, rfl, .inl rfl⟩
       have HX2 : Hid (Al2 (DblA n) (cu ++ [(p0, p1, p2, p3 + (n : Int))]) (ar.take (j + 1))) := HA3.out _ ⟨rfl, rfl, rfl, .inr rfl⟩
       clear HA3
       have x0 := (HBx.out.cell (p := ⟨b3, off3 + j * 4, none⟩) hb3).trans x0
       have x1 := (HBx.out.cell (p := ⟨b3, off3 + j * 4 + 1, none⟩) hb3).trans x1
       have x2 := (HBx.out.cell (p := ⟨b3, off3 + j * 4 + 2, none⟩) hb3).trans x2
       have x3 := (HBx.out.cell (p := ⟨b3, off3 + j * 4 + 3, none⟩) hb3).trans x3
       have HAb := hidP (Blk.made wr #[.int .i64 p0, .int .i64 p1, .int .i64 p2, .int .i64 p3] 58)
       have HSv := hidP (hs.out.alloc (.cells #[.int .i64 p0, .int .i64 p1, .int .i64 p2, .int .i64 p3] 58))
       have HOv : Hid (OwnArcs (wr.alloc (.cells #[.int .i64 p0, .int .i64 p1, .int .i64 p2, .int .i64 p3] 58)) (wq.heap.size + 1) (.slice aj j cj) cu) := hoa.out.later ((Below.refl _ _).alloc (Nat.le_refl _) _)
       have HBv := hidP (hbi.out.alloc hbi.out.size (.cells #[.int .i64 p0, .int .i64 p1, .int .i64 p2, .int .i64 p3] 58))
       have HBy := hidP (HBx.out.alloc HBx.out.size (.cells #[.int .i64 p0, .int .i64 p1, .int .i64 p2, .int .i64 p3] 58))
       have hne : some wr.heap.size ≠ (Value.slice aj j cj).ownBlock := fun e => by
        have := (World.ownsRow.lt hoa.out wr.heap.size e.symm).2
        omega
       clear hs hoa hbi
       go_upto_region 15 with fail
       generalize wr.alloc (.cells #[.int .i64 p0, .int .i64 p1, .int .i64 p2, .int .i64 p3] 58) = wv at *
       clear x0 x1 x2 x3 d1 z1
       have hAlt := HAb.out.lt
       have hsv := HBv.out.size
       have hwrap : IntKind.i64.wrap (p3 + (n : Int)) = p3 + (n : Int) := wrapI (by omega) (by omega)
       have m3 := HAb.out.cell 3 (v := .int .i64 p3) rfl
       have f3 := HAb.out.fz 3
       by_cases hkm : k3 < m
       ·have hkm1 : (k3 : Int) < (m : Int) := by omega
        have hk0 : (0 : Int) ≤ (k3 : Int) := by omega
        obtain ⟨bt, ot, rfl, hbt, tc⟩ := HZT.out k3 hkm
        have tc := (HBy.out.cell (p := ⟨bt, ot + k3, none⟩) hbt).trans tc
        obtain ⟨r, hr, hpc⟩ := HPK.out k3 hkm wv
        have HPC := hidP hpc
        clear hpc
        generalize el zt k3 = tk at *
        rcases hr with rfl | rfl
        ·have HA5 := hidP (HAb.out.set 3 (.int .i64 (p3 + (n : Int))))
         have HS5 := hidP (HSv.out.setO ⟨wr.heap.size, 3, none⟩ (.int .i64 (p3 + (n : Int))) (by show wq.heap.size ≠ wr.heap.size; omega))
         have HO5 : Hid (OwnArcs (wv.setCell ⟨wr.heap.size, 3, none⟩ (.int .i64 (p3 + (n : Int)))) (wq.heap.size + 1) (.slice aj j cj) cu) := HOv.out.setB hne 3 _
         have HB5 := hidP (HBv.out.setCell (p := ⟨wr.heap.size, 3, none⟩) (by show _ ≤ wr.heap.size; omega) (.int .i64 (p3 + (n : Int))))
         obtain ⟨a4, c4, w4, hr4, ho4, hb4⟩ := OwnArcs.push (W := (wv.setCell ⟨wr.heap.size, 3, none⟩ (.int .i64 (p3 + (n : Int))))) (base := wq.heap.size + 1) (v := .slice aj j cj) (ar := cu) HO5.out (p0, p1, p2, p3 + (n : Int)) (by have := hRL.out; omega) (by have := HB5.out.size; have := HS5.out.lt; omega)
         simp only [hRL.out, World.size_setCell] at hr4 ho4
         have R4 := hidP hr4
         have HO4 := hidP ho4
         have HS4 := hidP (HS5.out.below hb4 (Nat.lt_succ_self _))
         have HB4 := hidP (HB5.out.trans (hb4.mono (Nat.le_succ _)))
         have n0 := HA5.out.cell 0 (v := .int .i64 p0) rfl
         have n1 := HA5.out.cell 1 (v := .int .i64 p1) rfl
         have n2' := HA5.out.cell 2 (v := .int .i64 p2) rfl
         have n3 := HA5.out.cell 3 (v := .int .i64 (p3 + (n : Int))) rfl
         have sv := HS5.out.cell 1 (v := .slice aj j cj) rfl
         have s4 := HS4.out.cell 1 (v := .slice aj j cj) rfl
         have g4 := HS4.out.fz 1
         have HRN : Hid ((cu ++ [(p0, p1, p2, p3 + (n : Int))]).length = j + 1) := by (show _ = _); rw [List.length_append, hRL.out]; rfl
         clear hr4 ho4 hb4
         go_wp2_with (first
          | (go_at_call 37; (with_reducible refine HPC.out.mono ?_); rintro e w' ⟨rfl, rfl⟩)
          | (at_builtin; refine wpListAppendRun rfl _ _ 54 rfl rfl rfl R4.out ?_; clear R4))
         go_roundw
         case rel => exact ⟨k3 + 1, j + 1, a4, c4, cu ++ [(p0, p1, p2, p3 + (n : Int))], by go_num, by go_num, by omega, by omega, HX2, HRN, HS4.out.set 1 _, ownsRow_setCell_below HO4.out (a := ⟨wq.heap.size, 1, none⟩) (Nat.lt_succ_self _) _, HB4.out.setCell (p := ⟨wq.heap.size, 1, none⟩) (Nat.le_refl _) _⟩
         case measure => simp [intOf]; omega
        ·have HA5 := HAb
         have HS5 := HSv
         have HO5 := HOv
         have HB5 := HBv
         obtain ⟨a4, c4, w4, hr4, ho4, hb4⟩ := OwnArcs.push (W := wv) (base := wq.heap.size + 1) (v := .slice aj j cj) (ar := cu) HO5.out (p0, p1, p2, p3) (by have := hRL.out; omega) (by have := HB5.out.size; have := HS5.out.lt; omega)
         simp only [hRL.out, World.size_setCell] at hr4 ho4
         have R4 := hidP hr4
         have HO4 := hidP ho4
         have HS4 := hidP (HS5.out.below hb4 (Nat.lt_succ_self _))
         have HB4 := hidP (HB5.out.trans (hb4.mono (Nat.le_succ _)))
         have n0 := HA5.out.cell 0 (v := .int .i64 p0) rfl
         have n1 := HA5.out.cell 1 (v := .int .i64 p1) rfl
         have n2' := HA5.out.cell 2 (v := .int .i64 p2) rfl
         have n3 := HA5.out.cell 3 (v := .int .i64 (p3)) rfl
         have sv := HS5.out.cell 1 (v := .slice aj j cj) rfl
         have s4 := HS4.out.cell 1 (v := .slice aj j cj) rfl
         have g4 := HS4.out.fz 1
         have HRN : Hid ((cu ++ [(p0, p1, p2, p3)]).length = j + 1) := by (show _ = _); rw [List.length_append, hRL.out]; rfl
         clear hr4 ho4 hb4 m3
         go_wp2_with (first
          | (go_at_call 37; (with_reducible refine HPC.out.mono ?_); rintro e w' ⟨rfl, rfl⟩)
          | (at_builtin; refine wpListAppendRun rfl _ _ 54 rfl rfl rfl R4.out ?_; clear R4))
         go_roundw
         case rel => exact ⟨k3 + 1, j + 1, a4, c4, cu ++ [(p0, p1, p2, p3)], by go_num, by go_num, by omega, by omega, HX1, HRN, HS4.out.set 1 _, ownsRow_setCell_below HO4.out (a := ⟨wq.heap.size, 1, none⟩) (Nat.lt_succ_self _) _, HB4.out.setCell (p := ⟨wq.heap.size, 1, none⟩) (Nat.le_refl _) _⟩
         case measure => simp [intOf]; omega
       ·have hkm1 : ¬ (k3 : Int) < (m : Int) := by omega
        have HA5 := HAb
        have HS5 := HSv
        have HO5 := HOv
        have HB5 := HBv
        obtain ⟨a4, c4, w4, hr4, ho4, hb4⟩ := OwnArcs.push (W := wv) (base := wq.heap.size + 1) (v := .slice aj j cj) (ar := cu) HO5.out (p0, p1, p2, p3) (by have := hRL.out; omega) (by have := HB5.out.size; have := HS5.out.lt; omega)
        simp only [hRL.out, World.size_setCell] at hr4 ho4
        have R4 := hidP hr4
        have HO4 := hidP ho4
        have HS4 := hidP (HS5.out.below hb4 (Nat.lt_succ_self _))
        have HB4 := hidP (HB5.out.trans (hb4.mono (Nat.le_succ _)))
        have n0 := HA5.out.cell 0 (v := .int .i64 p0) rfl
        have n1 := HA5.out.cell 1 (v := .int .i64 p1) rfl
        have n2' := HA5.out.cell 2 (v := .int .i64 p2) rfl
        have n3 := HA5.out.cell 3 (v := .int .i64 (p3)) rfl
        have sv := HS5.out.cell 1 (v := .slice aj j cj) rfl
        have s4 := HS4.out.cell 1 (v := .slice aj j cj) rfl
        have g4 := HS4.out.fz 1
        have HRN : Hid ((cu ++ [(p0, p1, p2, p3)]).length = j + 1) := by (show _ = _); rw [List.length_append, hRL.out]; rfl
        clear hr4 ho4 hb4 m3
        go_wp2_with (first
         | (at_builtin; refine wpListAppendRun rfl _ _ 54 rfl rfl rfl R4.out ?_; clear R4))
        go_roundw
        case rel => exact ⟨k3 + 1, j + 1, a4, c4, cu ++ [(p0, p1, p2, p3)], by go_num, by go_num, by omega, by omega, HX1, HRN, HS4.out.set 1 _, ownsRow_setCell_below HO4.out (a := ⟨wq.heap.size, 1, none⟩) (Nat.lt_succ_self _) _, HB4.out.setCell (p := ⟨wq.heap.size, 1, none⟩) (Nat.le_refl _) _⟩
        case measure => simp [intOf]; omega
      ·have hjn' : ¬ (j : Int) < (n2 : Int) := by omega
       obtain rfl : n2 = j := by omega
       have HA2 : Hid (Al2 (DblA n) cu ar) := by
        have h9 := hA2.out
        rw [← HN2.out, List.take_length] at h9
        exact h9
       have hs1 := hs.out.cell 0 (v := .int .i64 fin) rfl
       have hs2 := hs.out.cell 1 (v := .slice aj n2 cj) rfl
       have hmq := hm.out.below hbi.out hmlt
       have hm1 := hmq.cell 1 (v := .slice av Lst.length cv) rfl
       obtain ⟨a6, c6, w6, hr6, hM6, hb6, hO7, hM7, hb7⟩ := push_step (w5 := wr) (B := w1.heap.size) (Mb := w1.heap.size) (fin, cu) (ho.out.laterB hbi.out) (hoa.out.mono (by omega)) hmq (by omega) (by omega) (by have := HLn.out; omega)
       simp only at hr6
       have R6 := hidP hr6
       have f6 := hM6.fz 1
       have c6' := hM6.cell 1 (v := .slice av Lst.length cv) rfl
       have HO7 := hidP hO7
       have HM7 := hidP hM7
       have HB7 := hidP ((hb.out.trans (hbi.out.mono hsr)).trans hb7)
       have HLN : Hid ((Lst ++ [(fin, cu)]).length = Lst.length + 1) := by (show _ = _); simp
       clear hr6 hM6 hb6 hO7 hM7 hb7
       go_wp2_with (first
        | (at_builtin; refine wpListAppendRun rfl _ _ 27 rfl rfl rfl R6.out ?_; clear R6))
       go_roundw
       case rel => exact ⟨k3, i + 1, a6, c6, C ++ [(fin, cu)], Lst ++ [(fin, cu)], by go_num, by go_num, by omega, by omega, HSN.out _ HA2.out, by (show _ = _); rw [hMM.out, List.append_assoc], by rw [HLN.out]; exact HM7.out, by rw [HLN.out]; exact HO7.out, HB7⟩
       case measure => simp [intOf]; omega
    ·have hin' : ¬ (i : Int) < (n : Int) := by omega
     obtain rfl : i = n := by omega
     have HI2 := hidP (HIS.out hh L C hlt hI.out hU.out)
     have hMM' := hMM.out
     subst hMM'
     go_wp2
     go_roundw
     case rel => exact ⟨k2, hh + 1, av, cv, L ++ C, by go_num, by go_num, by omega, by omega, HI2, hm, ho, hb⟩
     case measure => simp [intOf]; omega
  ·have hlt' : ¬ (hh : Int) < 2 := by omega
   obtain rfl : hh = 2 := by omega
   have HDD := hidP (HIE.out _ hI.out)
   have m0 := hm0.out.cell 0 (v := .int .i64 z) rfl
   have m1 := hm0.out.cell 1 (v := .slice av0 L.length cv0) rfl
   have KRr := hidP (KR.out.below hb0.out KR.out.lt)
   have hkr := KR.out.lt
   have q0 := KRr.out.cell 0 (v := .int .i64 0) rfl
   have q1 := KRr.out.cell 1 (v := .slice none 0 0) rfl
   have g0 := KRr.out.fz 0
   have g1 := KRr.out.fz 1
   go_wp2
   exact bodyPost_ret (res_dbl _ _ (w.heap.size + 1) _ _ ((KRr.out.set 0 (.int .i64 z)).set 1 (.slice av0 L.length cv0)) rfl) rfl ⟨_, rfl, z, L, HDD.out, ⟨_, rfl, ((ho0.out.setCell (a := ⟨w.heap.size + 1, 0, none⟩) hkr _).setCell (a := ⟨w.heap.size + 1, 1, none⟩) hkr _).sts⟩, ((HB1.out.trans (hb0.out.mono HB1.out.size)).setCell (p := ⟨w.heap.size + 1, 0, none⟩) (Nat.le_succ _) _).setCell (p := ⟨w.heap.size + 1, 1, none⟩) (Nat.le_succ _) _⟩
theorem doubled_any (v vt : Value) (m : Mc) (zt : List Int) (w : World) (h : Mach w v m) (hr : faultM m = 0) (ht : Nums w vt zt) (hwf : ∀ n ∈ zt, (Lit.int .i64 n).wf = true) :
  Calls Tryz.prog 19 #[v, vt] w fun e w' => ∃ v D, e = .returned v ∧ Dbl m D ∧ Mach w' v D ∧ Below w.heap.size w w' := by
 obtain ⟨z, l⟩ := m
 obtain ⟨vs, rfl, hS⟩ := id h
 obtain ⟨a, cap, rfl⟩ := hS.sl
 obtain ⟨at', ct, rfl, _⟩ := id ht.get
 exact doubled_ok z l a at' cap ct zt w h hr ht hwf
end Go.Proofs.YtfhjncpakgailaaGreatDoor.Wt
