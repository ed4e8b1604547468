/- weigh.silent: a machine that writes nothing. -/
import Derived.Test.YtkeeiihaijhdoaaCaj
import Derived.Test.YtkeeiihaijhdoaaCae
import Derived.Test.YtkeeiihaijhdoaaCac
import Derived.Test.YtkeeiihaijhdoaaCar
import Derived.Laws.NewFold
import Derived.Test.YtkeeiihaijhdoaaCat
import Derived.Test.YtkeeiihaijhdoaaCal
namespace Go.Proofs.Ytkeeiihaijhdoaa.Wt
open Go.ChangeShapes Go.WideShapes Go.ChangeAt Go.RowKit
open Go.Proofs.Ytkeeiihaijhdoaa.Pl
set_option linter.unusedVariables false
set_option linter.unusedSimpArgs false
set_option maxRecDepth 100000 in
set_option maxHeartbeats 3200000 in
theorem silent_any (v : Value) (m : Mc) (w : World) (h : Mach w v m) (hr : faultM m = 0) :
  Calls Try.prog 47 #[v] w fun e w' => ∃ v', e = .returned v' ∧ MachFrom w.heap.size w' v' (silM m) ∧ Below w.heap.size w w' := by
 obtain ⟨z, l⟩ := m
 obtain ⟨vs, rfl, hS⟩ := h
 obtain ⟨a, cap, rfl, hc⟩ := hS.get
 have H60 : Hid (l.length ≤ 60) := (right_size hr).1
 have HST : Hid (∀ j, j < l.length → (el l j).2.length ≤ 400) := fun j hj => right_arcs hr j
 have HC : Hid (∀ j, j < l.length → ∃ b off va, a = some ⟨b, off, none⟩ ∧ b < w.heap.size ∧ w.cell? ⟨b, off + j * 2, none⟩ = some (.int .i64 (el l j).1) ∧ w.cell? ⟨b, off + j * 2 + 1, none⟩ = some va ∧ Arcs w va (el l j).2) := hc
 clear hS hc hr
 simp only
 generalize hn : l.length = n at *
 have HN : Hid (l.length = n) := hn
 clear hn
 have hmk := run_states n (by have := H60.out; omega)
 have hok1 := hidP (Blk.made ((w.alloc (.cells #[.int .i64 z, .slice a n cap] 24)).alloc (.cells #[.int .i64 0, .slice none 0 0] 24)) ((List.replicate n ((0 : Int), Value.slice none 0 0)).flatMap encS).toArray 58)
 have hok2 := hidP ((Blk.made (w.alloc (.cells #[.int .i64 z, .slice a n cap] 24)) #[.int .i64 0, .slice none 0 0] 24).alloc (.cells ((List.replicate n ((0 : Int), Value.slice none 0 0)).flatMap encS).toArray 58))
 have hok3 := hidP ((((Below.refl w.heap.size w).alloc (Nat.le_refl _) (.cells #[.int .i64 z, .slice a n cap] 24)).alloc (by simp) (.cells #[.int .i64 0, .slice none 0 0] 24)).alloc (by simp; omega) (.cells ((List.replicate n ((0 : Int), Value.slice none 0 0)).flatMap encS).toArray 58))
 simp only [World.size_alloc] at hok1 hok2
 go_enter Try.func47, Try.ntmps47
 go_wp2
 clear hmk
 obtain ⟨S0, hS0⟩ : ∃ S0, S0 = w.heap.size + 1 + 1 := ⟨_, rfl⟩
 rw [← hS0] at hok1
 simp only [← hS0]
 have hSl : w.heap.size + 1 < S0 := by omega
 have HS0 := hidP hS0
 clear hS0
 go_loopw [16] (fun i wr => ∃ (k : Nat) (vs : List (Int × Value)), k ≤ n ∧ i = .int .i64 k ∧ vs.length = n ∧ Hid (Blk wr S0 (vs.flatMap encS).toArray 58) ∧ Hid (∀ j, j < k → (el vs j).1 = (el l j).1 ∧ wr.ownsRow (S0 + 1) 75 4 (el vs j).2 ((el l j).2.map silA).length (((el l j).2.map silA).flatMap encA)) ∧ Hid (Blk wr w.heap.size #[.int .i64 z, .slice a n cap] 24) ∧ Hid (Blk wr (w.heap.size + 1) #[.int .i64 0, .slice none 0 0] 24) ∧ Hid (Below w.heap.size w wr) ∧ S0 + 1 ≤ wr.heap.size) (fun i _ => n - (intOf i).toNat)
 case atStart => exact ⟨0, List.replicate n ((0 : Int), Value.slice none 0 0), Nat.zero_le _, rfl, by simp, hok1, fun j hj => absurd hj (Nat.not_lt_zero _), ((Blk.made _ _ _).alloc _).alloc _, hok2, hok3, by have := HS0.out; simp; omega⟩
 case round =>
  clear hok1 hok2 hok3
  obtain ⟨k, vs, hk, rfl, hvl, hbs, hold, hk0, hk1, hb, hws⟩ := hrel
  obtain ⟨w2, hw2⟩ : ∃ w2, w2 = wr := ⟨_, rfl⟩
  subst hw2
  by_cases hlt : k < n
  ·obtain ⟨b, off, va, rfl, hbl, g0, g1, gA⟩ := HC.out k hlt
   have g0 := (hb.out.cell (p := ⟨b, off + k * 2, none⟩) hbl).trans g0
   have g1 := (hb.out.cell (p := ⟨b, off + k * 2 + 1, none⟩) hbl).trans g1
   obtain ⟨a2, cap2, rfl, hc2⟩ := (gA.later hb.out (Nat.le_refl _)).get
   have HC2 := hidP hc2
   have hl4 : (el l k).2.length ≤ 400 := HST.out k hlt
   have hk0' : (0 : Int) ≤ (k : Int) := Int.natCast_nonneg _
   have hk1' : (k : Int) < (n : Int) := by omega
   clear gA hc2
   obtain ⟨ar, har⟩ : ∃ ar, (el l k).2 = ar := ⟨_, rfl⟩
   have HAR := hidP har
   obtain ⟨fi, hfi⟩ : ∃ fi, (el l k).1 = fi := ⟨_, rfl⟩
   have HFI := hidP hfi
   rw [har] at g1 HC2 hl4
   rw [hfi] at g0
   clear har hfi
   generalize hn1 : ar.length = n1 at *
   have HN1 := hidP hn1
   clear hn1
   have hmk := run_arcs n1 (by omega)
   go_wp2
   clear hmk
   have HV := hidP hvl
   go_loopw [28] (fun i wi => ∃ (k2 : Nat) (xs : List Ar), k2 ≤ n1 ∧ i = .int .i64 k2 ∧ xs.length = n1 ∧ Hid (Blk wi (w2.heap.size + 1) (xs.flatMap encA).toArray 75) ∧ Hid (∀ j, j < k2 → el xs j = silA (el ar j)) ∧ Hid (Blk wi w2.heap.size #[.int .i64 fi, .slice a2 n1 cap2] 58) ∧ Hid (Below w2.heap.size w2 wi)) (fun i _ => n1 - (intOf i).toNat)
   case atStart => exact ⟨0, List.replicate n1 ((0, 0, 0, 0) : Ar), Nat.zero_le _, rfl, by simp, (by have := Blk.made (w2.alloc (.cells #[.int .i64 fi, .slice a2 n1 cap2] 58)) ((List.replicate n1 ((0, 0, 0, 0) : Ar)).flatMap encA).toArray 75; rw [World.size_alloc] at this; exact this), fun j hj => absurd hj (Nat.not_lt_zero _), (Blk.made _ _ _).alloc _, ((Below.refl _ _).alloc (Nat.le_refl _) _).alloc (by simp) _⟩
   case round =>
    obtain ⟨k2, xs, hk2, rfl, hxl, hbx, holx, hbt, hbi⟩ := hrel
    obtain ⟨w3, hw3⟩ : ∃ w3, w3 = wr := ⟨_, rfl⟩
    subst hw3
    by_cases hlt2 : k2 < n1
    ·obtain ⟨b2, off2, rfl, hb2l, q0, q1, q2, q3⟩ := HC2.out k2 hlt2
     have q0 := (hbi.out.cell (p := ⟨b2, off2 + k2 * 4, none⟩) hb2l).trans q0
     have q1 := (hbi.out.cell (p := ⟨b2, off2 + k2 * 4 + 1, none⟩) hb2l).trans q1
     have q2 := (hbi.out.cell (p := ⟨b2, off2 + k2 * 4 + 2, none⟩) hb2l).trans q2
     have q3 := (hbi.out.cell (p := ⟨b2, off2 + k2 * 4 + 3, none⟩) hb2l).trans q3
     have hk20 : (0 : Int) ≤ (k2 : Int) := Int.natCast_nonneg _
     have hk21 : (k2 : Int) < (n1 : Int) := by omega
     obtain ⟨p, hpp⟩ : ∃ p : Ar, el ar k2 = p := ⟨_, rfl⟩
     have HPP := hidP hpp
     rw [hpp] at q0 q1 q2 q3
     clear hpp
     obtain ⟨p0, p1, p2, p3⟩ := p
     simp only at q0 q1 q2 q3
     have hbl := hbx.out.lt
     have X4 := hbx.out
     have HX4 := hidP X4
     have e0 := X4.cell (k2 * 4) (v := .int .i64 (el xs k2).1) (by rw [List.getElem?_toArray]; exact flat_at encA_len xs k2 (by omega) 0 (by omega))
     have e1 := X4.cell (k2 * 4 + 1) (v := .int .i64 (el xs k2).2.1) (by rw [List.getElem?_toArray]; exact flat_at encA_len xs k2 (by omega) 1 (by omega))
     have e2 := X4.cell (k2 * 4 + 2) (v := .int .i64 (el xs k2).2.2.1) (by rw [List.getElem?_toArray]; exact flat_at encA_len xs k2 (by omega) 2 (by omega))
     have e3 := X4.cell (k2 * 4 + 3) (v := .int .i64 (el xs k2).2.2.2) (by rw [List.getElem?_toArray]; exact flat_at encA_len xs k2 (by omega) 3 (by omega))
     have f0 := X4.fz (k2 * 4)
     have f1 := X4.fz (k2 * 4 + 1)
     have f2 := X4.fz (k2 * 4 + 2)
     have f3 := X4.fz (k2 * 4 + 3)
     clear X4
     go_wp2
     go_roundw
     case rel =>
      refine ⟨k2 + 1, xs.set k2 (p0, 0, p2, p3), by omega, by go_num, by simp [hxl], ?_, ?_, ?_, ?_⟩
      ·have h := ((((HX4.out.set (k2 * 4) (.int .i64 p0)).set (k2 * 4 + 1) (.int .i64 0)).set (k2 * 4 + 2) (.int .i64 p2)).set (k2 * 4 + 3) (.int .i64 p3)).alloc (.cells #[.int .i64 p0, .int .i64 0, .int .i64 p2, .int .i64 p3] 75)
       rw [set_arc (by omega) (p0, 0, p2, p3)] at h
       exact h
      ·intro j hj
       rw [el_setS (by omega)]
       by_cases hjk : j = k2
       ·subst hjk
        rw [if_pos rfl, HPP.out]
        rfl
       ·rw [if_neg hjk]
        exact holx.out j (by omega)
      ·exact ((((hbt.out.setO _ _ (by show w2.heap.size ≠ w2.heap.size + 1; omega)).setO _ _ (by show w2.heap.size ≠ w2.heap.size + 1; omega)).setO _ _ (by show w2.heap.size ≠ w2.heap.size + 1; omega)).setO _ _ (by show w2.heap.size ≠ w2.heap.size + 1; omega)).alloc _
      ·exact ((((hbi.out.setCell (by show w2.heap.size ≤ w2.heap.size + 1; omega) _).setCell (by show w2.heap.size ≤ w2.heap.size + 1; omega) _).setCell (by show w2.heap.size ≤ w2.heap.size + 1; omega) _).setCell (by show w2.heap.size ≤ w2.heap.size + 1; omega) _).alloc (by have := hbi.out.size; simp [World.setCell]; omega) _
     case measure => simp [intOf]; omega
    ·have hke2 : k2 = n1 := by omega
     have hnl2 : ¬ (k2 : Int) < (n1 : Int) := by omega
     have hxe : xs = ar.map silA := by
      refine el_ext (by rw [List.length_map, HN1.out]; exact hxl) fun j hj => ?_
      rw [holx.out j (by omega), el_map (by rw [HN1.out]; omega)]
     have t0 := hbt.out.cell 0 (v := .int .i64 fi) rfl
     have HOW := hidP (arcs_block (B := S0 + 1) hbx.out (by omega) (by omega))
     rw [hxl] at HOW
     have hbs3 := hbs.out.below hbi.out (by omega)
     have e0 := hbs3.cell (k * 2) (v := .int .i64 (el vs k).1) (by rw [List.getElem?_toArray]; exact flat_at encS_len vs k (by rw [HV.out]; omega) 0 (by omega))
     have e1 := hbs3.cell (k * 2 + 1) (v := (el vs k).2) (by rw [List.getElem?_toArray]; exact flat_at encS_len vs k (by rw [HV.out]; omega) 1 (by omega))
     have f0 := hbs3.fz (k * 2)
     have f1 := hbs3.fz (k * 2 + 1)
     have HBS3 := hidP hbs3
     have HXE := hidP hxe
     have HXL := hidP hxl
     clear hxe hxl hbs3
     have h60 := H60.out
     go_wp2
     go_roundw
     case rel =>
      refine ⟨k + 1, vs.set k (fi, .slice (some ⟨w2.heap.size + 1, 0, none⟩) n1 n1), by omega, by go_num, by simp; exact HV.out, ?_, ?_, ?_, ?_, ?_, ?_⟩
      ·have h := (HBS3.out.set (k * 2) (.int .i64 fi)).set (k * 2 + 1) (.slice (some ⟨w2.heap.size + 1, 0, none⟩) n1 n1)
       rw [set_state (by rw [HV.out]; omega) (fi, .slice (some ⟨w2.heap.size + 1, 0, none⟩) n1 n1)] at h
       exact h
      ·intro j hj
       rw [el_setS (by rw [HV.out]; omega)]
       by_cases hjk : j = k
       ·subst hjk
        rw [if_pos rfl, HAR.out, HFI.out, ← HXE.out, HXL.out]
        exact ⟨rfl, ownsRow_setCell_below (ownsRow_setCell_below HOW.out (Nat.lt_succ_self _) _) (Nat.lt_succ_self _) _⟩
       ·rw [if_neg hjk]
        obtain ⟨q1, q2⟩ := hold.out j (by omega)
        exact ⟨q1, ownsRow_setCell_below (ownsRow_setCell_below (own_below q2 hbi.out) (Nat.lt_succ_self _) _) (Nat.lt_succ_self _) _⟩
      ·exact ((hk0.out.below hbi.out (by omega)).setO _ _ (by show w.heap.size ≠ S0; omega)).setO _ _ (by show w.heap.size ≠ S0; omega)
      ·exact ((hk1.out.below hbi.out (by omega)).setO _ _ (by show w.heap.size + 1 ≠ S0; omega)).setO _ _ (by show w.heap.size + 1 ≠ S0; omega)
      ·exact ((hb.out.trans (hbi.out.mono hb.out.size)).setCell (by show w.heap.size ≤ S0; omega) _).setCell (by show w.heap.size ≤ S0; omega) _
      ·have := hbi.out.size
       simp [World.setCell]; omega
     case measure => simp [intOf]; omega
  ·have hke : k = n := by omega
   have hnl : ¬ (k : Int) < (n : Int) := by omega
   have HX : Hid (∀ w', Agree S0 w2 w' → Sts w' (.slice (some ⟨S0, 0, none⟩) n n) (l.map silS)) := by
    intro w' hg
    have hl2 : (l.map silS).length = n := by simp; exact HN.out
    have := sts_block (l := l.map silS) (B := S0 + 1) (w := w') (blk_agree hbs.out (Nat.le_refl _) hg) (by rw [hl2]; exact hvl) (fun j hj => by
     have hj' : j < l.length := by simpa using hj
     rw [el_map hj']
     obtain ⟨q1, q2⟩ := hold.out j (by rw [hke, ← HN.out]; exact hj')
     exact ⟨q1, own_agree q2 (hg.mono (Nat.le_succ _))⟩)
    rw [hl2] at this
    exact this
   have d0 := hk0.out.cell 0 (v := .int .i64 z) rfl
   have e0 := hk1.out.cell 0 (v := .int .i64 0) rfl
   have e1 := hk1.out.cell 1 (v := .slice none 0 0) rfl
   have e2 := hk1.out.fz 0
   have e3 := hk1.out.fz 1
   have HB : Hid (Below w.heap.size w w2) := hb
   clear hold hbs hb hke hk0 hk1
   go_wp2
   refine bodyPost_ret (v := .agg #[.int .i64 z, .slice (some ⟨S0, 0, none⟩) n n]) (by simp [results, Try.results47, go_sem, *]) rfl ⟨_, rfl, fun w' hg => ⟨_, rfl, ?_⟩, by (have h := HB.out); go_grown⟩
   exact HX.out w' (((agree_set (by show w.heap.size + 1 < _; omega) _).trans (by simp [World.setCell]) (agree_set (by show w.heap.size + 1 < _; omega) _)).trans (by simp [World.setCell]) (hg.mono (by omega)))
set_option maxRecDepth 100000 in
set_option maxHeartbeats 1600000 in
theorem readsWP_any (v vx : Value) (m : Mc) (x : List Int) (w : World) (h : Mach w v m) (hok : okM m) (nx : Nums w vx x) :
  Calls Try.prog 25 #[v, vx] w fun e w' => ∃ n ec : Int, e = .returned (.tuple #[.int .i64 n, .int .i64 ec]) ∧ WgR (CostsR m x) (wghE1 m x) n ec ∧ Below w.heap.size w w' := by
 obtain ⟨z, l⟩ := m
 have HM : Hid (Mach w v (z, l)) := h
 obtain ⟨vs, rfl, hS⟩ := h
 obtain ⟨a, cap, rfl⟩ := hS.sl
 obtain ⟨ax, cx, hvx, _⟩ := nx.get
 have HCA : Hid (∀ W b, Below w.heap.size w W → Blk W b #[vx] 35 → Calls Try.prog 45 #[.agg #[.int .i64 z, .slice a l.length cap], .slice (some ⟨b, 0, none⟩) 1 1] W fun e w' => e = .returned (.int .i64 (wghE1 (z, l) x)) ∧ Below W.heap.size W w') := fun W b hW hb => checkAll_any _ (z, l) b [vx] [x] 1 W (HM.out.later hW (Nat.le_refl _)) hok (words1 hb (nx.later hW (Nat.le_refl _))) rfl (by omega) _ (by unfold allE wghE1; rw [wds_one])
 have HGD : Hid (wghE1 (z, l) x = 0 → faultM (z, l) = 0 ∧ x.length ≤ 12) := fun h0 => by
  unfold wghE1 at h0
  have hf : faultM (z, l) = 0 := by
   by_cases g : faultM (z, l) = 0
   ·exact g
   ·rw [if_pos g] at h0; exact h0
  rw [if_neg (by simp [hf])] at h0
  exact ⟨hf, (wrd_parts h0).1⟩
 have HSI : Hid (wghE1 (z, l) x = 0 → ∀ W, Below w.heap.size w W → Calls Try.prog 47 #[.agg #[.int .i64 z, .slice a l.length cap]] W fun e w' => ∃ v', e = .returned v' ∧ MachFrom W.heap.size w' v' (silM (z, l)) ∧ Below W.heap.size W w') := fun h0 W hW => silent_any _ (z, l) W (HM.out.later hW (Nat.le_refl _)) (HGD.out h0).1
 have HCO : Hid (wghE1 (z, l) x = 0 → ∀ W v', Below w.heap.size w W → Mach W v' (silM (z, l)) → Calls Try.prog 46 #[v', vx, .slice none 0 0] W fun e w' => ∃ n ec : Int, e = .returned (.tuple #[.int .i64 n, .int .i64 ec]) ∧ WghAns (CostsR (z, l) x) n ec ∧ Below W.heap.size W w') := fun h0 W v' hW hv' => by
  have h9 := costP_any v' vx (.slice none 0 0) (silM (z, l)) x [] W hv' (sil_right (HGD.out h0).1) (nx.later hW (Nat.le_refl _)) (.inl ⟨rfl, rfl⟩) (HGD.out h0).2 (by simp)
  refine h9.mono ?_
  rintro e w' ⟨n, ec, rfl, h1, h2⟩
  exact ⟨n, ec, rfl, h1.congr (costs_sil (z, l) x), h2⟩
 have k1 := Blk.made (w.alloc (.cells #[.int .i64 z, .slice a l.length cap] 24)) #[vx] 35
 have k2 : Below w.heap.size w ((w.alloc (.cells #[.int .i64 z, .slice a l.length cap] 24)).alloc (.cells #[vx] 35)) := ((Below.refl w.heap.size w).alloc (Nat.le_refl _) _).alloc (by simp) _
 simp only [World.size_alloc] at k1
 have HC0 := hidP (HCA.out _ _ k2 k1)
 clear hS hok nx HM k1 k2 HCA HGD
 generalize l.length = ln at *
 unfold WgR
 simp only
 generalize wghE1 (z, l) x = r at *
 generalize CostsR (z, l) x = P at *
 generalize silM (z, l) = sm at *
 subst hvx
 by_cases hr : r = 0
 ·subst hr
  have HCO2 := hidP (HCO.out rfl)
  have HSI2 := hidP (HSI.out rfl)
  simp only [if_true]
  clear HCO HSI
  go_enter Try.func25, Try.ntmps25
  go_wp2_with (first
   | (go_at_call 45; (with_reducible refine HC0.out.mono ?_); rintro e1 w1 ⟨rfl, hb⟩; obtain ⟨s1, b1, _, hb1⟩ := boxedTwo hb (by simp); have HB1 := hidP hb1; have c0 := b1.cell 0 (v := .int .i64 z) rfl; have c1 := b1.cell 1 (v := .slice a ln cap) rfl; clear hb b1 hb1)
   | (go_at_call 47; (with_reducible refine (HSI2.out _ HB1.out).mono ?_); rintro e1 w2 ⟨v2, rfl, hm2, hb2⟩; have HM2 := hidP hm2.mach; have HB2 := hidP (HB1.out.trans (hb2.mono HB1.out.size)); obtain ⟨a9, c9, hv9⟩ := hm2.sl; subst hv9; clear hm2 hb2)
   | (go_at_call 46; (with_reducible refine (HCO2.out _ _ HB2.out HM2.out).mono ?_); rintro e1 w3 ⟨n, ec, rfl, ha, hb3⟩; have HA := hidP ha; have HB3 := hidP (HB2.out.trans (hb3.mono HB2.out.size)); clear ha hb3))
  exact bodyPost_ret (v := .tuple #[.int .i64 n, .int .i64 ec]) (by simp [results, Try.results25, go_sem, *]) rfl ⟨n, ec, rfl, HA.out, HB3.out⟩
 ·simp only [if_neg hr]
  clear HCO HSI
  go_enter Try.func25, Try.ntmps25
  go_wp2_with (first
   | (go_at_call 45; (with_reducible refine HC0.out.mono ?_); rintro e1 w1 ⟨rfl, hb⟩; obtain ⟨s1, b1, _, hb1⟩ := boxedTwo hb (by simp); have HB1 := hidP hb1; clear hb b1 hb1))
  exact bodyPost_ret (v := .tuple #[.int .i64 0, .int .i64 r]) (by simp [results, Try.results25, go_sem, *]) rfl ⟨0, r, rfl, ⟨rfl, rfl⟩, HB1.out⟩
end Go.Proofs.Ytkeeiihaijhdoaa.Wt
namespace Go.Proofs.Ytkeeiihaijhdoaa.Pl
set_option linter.unusedVariables false
set_option linter.unusedSimpArgs false
def NineL (l : List St) : Prop := ∀ s ∈ l, (s.1 ≠ 1000000001 → s.1 ≤ 9) ∧ ∀ a ∈ s.2, a.2.2.1 ≤ 9
theorem made_nine (r : Int × List (Int × Bool × List Ar)) (states : Nat) (full : Bool) : NineL (madeM r states full).2 := fun s hs => by
 simp only [madeM, statesM, List.mem_map] at hs
 obtain ⟨q, _, rfl⟩ := hs
 split
 ·exact ⟨fun _ => by simp, fun a ha => absurd ha (by simp)⟩
 ·refine ⟨fun h => ?_, fun a ha => ?_⟩
  ·unfold stM at h ⊢
   simp only at h ⊢
   split
   ·have := pkR_bd (el r.2 q).1 10 (by omega); omega
   ·rename_i g; rw [if_neg g] at h; exact absurd rfl h
  ·simp only [stM, List.mem_map] at ha
   obtain ⟨e, _, rfl⟩ := ha
   unfold arM
   have := pkR_bd e.2.2.1 10 (by omega)
   simp only
   omega
end Go.Proofs.Ytkeeiihaijhdoaa.Pl
