/- The reference's tellApart: a table of which states are told apart. -/
import Derived.Test.YthajkkobgfighaaGreatDoorJaH
import Derived.Test.YthajkkobgfighaaGreatDoorJah
namespace Go.Proofs.YthajkkobgfighaaGreatDoor.Wt
open Go.ChangeShapes Go.WideShapes Go.ChangeAt Go.RowKit
open Go.Proofs.YthajkkobgfighaaGreatDoor.Pl
set_option linter.unusedVariables false
set_option linter.unusedSimpArgs false
theorem infoBoolL : (Tryz.prog.info? 4).map (fun i => (i.zero, i.size, i.bytes)) = some (some (.bool false), 1, 1) := by kernel_rfl
theorem run_boolsL (n : Nat) (hn : n ≤ 1000) (W : World) : (Instr.makeSlice 49 (.int .i64 (n : Int)) (.int .i64 (n : Int))).run Tryz.prog W = .ok (.slice (some ⟨W.heap.size, 0, none⟩) n n) (W.alloc (.cells (Array.replicate n (Value.bool false)) 4)) := by
 obtain ⟨i1, hi1, hy0, hy1, hy2⟩ := info_parts infoBoolL
 have h := run_make (P := Tryz.prog) W 49 4 i1 _ Tryz.underlying49 hi1 hy0 .i64 .i64 n n (by omega) (by omega) (by rw [hy2]; omega) (by omega)
 rw [hy1, Int.toNat_natCast] at h
 have hz : Value.cells (.bool false) = #[.bool false] := rfl
 have e : madeCells (Value.cells (.bool false)) (n * 1) = Array.replicate n (Value.bool false) := by
  apply Array.ext_getElem?
  intro t
  simp only [madeCells, hz]
  by_cases ht : t < n
  ·simp [ht, Nat.mod_one]
  ·simp [ht]
 rw [e] at h
 exact h
def falN (w : World) (g : Nat) : Nat := match w.heap[g]? with
 | some (.cells cs _ _) => cs.toList.countP fun v => match v with | .bool false => true | _ => false
 | _ => 0
def falG (w : World) (gs : List Nat) : Nat := (gs.map (falN w)).sum
theorem falN_of {w : World} {g : Nat} {r : List Bool} {t : TypeId} (h : Blk w g (r.map Value.bool).toArray t) : falN w g = notB r := by
 unfold falN
 unfold Blk at h
 rw [h]
 show List.countP _ (r.map Value.bool) = _
 rw [List.countP_map]
 unfold notB
 congr 1
 funext b
 cases b <;> rfl
theorem falG_of {w : World} {base n : Nat} {v : Value} {gs : List Nat} {d : List (List Bool)} (h : GridB w base n v gs d) : falG w gs = notU d := by
 unfold falG notU
 congr 1
 refine el_ext (by simp [h.1]) fun j hj => ?_
 rw [List.length_map] at hj
 rw [el_map hj, el_map (by rw [← h.1]; exact hj)]
 exact falN_of (h.2.2.1 j hj).2.2
def boolL (v : Value) : Nat := match v with | .bool true => 1 | _ => 0
structure HeldLb (G q gq p mb : Nat) (vq : Value) (x : Bool) (vm : Value) (b o1 o2 : Nat) (f1 f2 : Int) (v1 v2 : Value) (w : World) : Prop where
 h0 : w.cell? ⟨G, q, none⟩ = some vq
 h1 : w.cell? ⟨gq, p, none⟩ = some (.bool x)
 h2 : w.cell? ⟨mb, 1, none⟩ = some vm
 h3 : w.cell? ⟨b, o1, none⟩ = some (.int .i64 f1)
 h4 : w.cell? ⟨b, o1 + 1, none⟩ = some v1
 h5 : w.cell? ⟨b, o2, none⟩ = some (.int .i64 f2)
 h6 : w.cell? ⟨b, o2 + 1, none⟩ = some v2
theorem HeldLb.later {G q gq p mb : Nat} {vq : Value} {x : Bool} {vm : Value} {b o1 o2 : Nat} {f1 f2 : Int} {v1 v2 : Value} {w w' : World} (h : HeldLb G q gq p mb vq x vm b o1 o2 f1 f2 v1 v2 w) (hb : Below w.heap.size w w') : HeldLb G q gq p mb vq x vm b o1 o2 f1 f2 v1 v2 w' :=
 ⟨(hb.cell (World.block_lt_of_cell? _ _ h.h0)).trans h.h0, (hb.cell (World.block_lt_of_cell? _ _ h.h1)).trans h.h1, (hb.cell (World.block_lt_of_cell? _ _ h.h2)).trans h.h2, (hb.cell (World.block_lt_of_cell? _ _ h.h3)).trans h.h3, (hb.cell (World.block_lt_of_cell? _ _ h.h4)).trans h.h4, (hb.cell (World.block_lt_of_cell? _ _ h.h5)).trans h.h5, (hb.cell (World.block_lt_of_cell? _ _ h.h6)).trans h.h6⟩
theorem setU_putB (d : List (List Bool)) (q p : Nat) : putB d q p true = setU d q p := rfl
set_option maxRecDepth 100000 in
set_option maxHeartbeats 6400000 in
theorem tellApart_any (z : Int) (l : List St) (a : Option Addr) (cap : Nat) (w : World) (h : Mach w (.agg #[.int .i64 z, .slice a l.length cap]) (z, l)) (hr : faultM (z, l) = 0) :
  Calls Tryz.prog 16 #[.agg #[.int .i64 z, .slice a l.length cap]] w fun e w' => ∃ v gs d, e = .returned v ∧ GridB w' (w.heap.size + 1) l.length v gs d ∧ (d.length = l.length ∧ ∀ i j, i < l.length → j < l.length → (tabU d i j = true ↔ Aprt l i j)) ∧ Below w.heap.size w w' := by
 obtain ⟨vs', hvs, hS⟩ := h
 simp only [Value.agg.injEq, Array.mk.injEq, List.cons.injEq, and_true, true_and] at hvs
 subst hvs
 obtain ⟨a', cap', hsl, hc⟩ := hS.get
 simp only [Value.slice.injEq, true_and] at hsl
 obtain ⟨rfl, rfl⟩ := hsl
 have h60 : l.length ≤ 60 := (right_size hr).1
 have HC : Hid (∀ j, j < l.length → ∃ b off va, a = some ⟨b, off, none⟩ ∧ b < w.heap.size ∧ w.cell? ⟨b, off + j * 2, none⟩ = some (.int .i64 (el l j).1) ∧ w.cell? ⟨b, off + j * 2 + 1, none⟩ = some va ∧ Arcs w va (el l j).2) := hc
 have hto := to_of hr
 have HTO : Hid (∀ q, q < l.length → ∀ i, i < (el l q).2.length → ∃ t : Nat, (el (el l q).2 i).2.2.2 = (t : Int) ∧ t < l.length) := fun q hq i hi => hto q hq _ (el_mem hi)
 have HST : Hid (∀ j, j < l.length → (el l j).2.length ≤ 400) := fun j hj => (right_states hr j hj).2.1
 have HPUT : Hid (∀ d0 d b q p, TelI l d0 d b q p → q < l.length → p < l.length → tabU d q p = false → aptB l (tabU d) q p = true → TelI l d0 (setU d q p) true q (p + 1)) := fun d0 d b q p hI hq hp h0 h1 => hI.put hto hq hp h0 h1
 have HALL : Hid (∀ d0 d q p, TelI l d0 d false q p → l.length ≤ q → ∀ i j, i < l.length → j < l.length → (tabU d i j = true ↔ Aprt l i j)) := fun d0 d q p hI hq => hI.all hto hq
 have HTS : Hid (∀ n, l.length = n → TelI l (List.replicate n (List.replicate n false)) (List.replicate n (List.replicate n false)) false 0 0) := fun n hn => tel_start n hn
 clear hS hc hr hto
 generalize hn : l.length = n at *
 have HN := hidP hn
 clear hn
 have hmk := run_boolsL n (by omega)
 go_enter Tryz.func16, Tryz.ntmps16
 go_wp2
 go_loopw [4, 5] (fun sv i wr => ∃ (q : Nat) (v : Value) (gs : List Nat), q ≤ n ∧ v = sv ∧ i = .int .i64 q ∧ Hid (GridB wr (w.heap.size + 1) n v gs (List.replicate q (List.replicate n false))) ∧ Hid (Blk wr w.heap.size #[.int .i64 z, .slice a n cap] 24) ∧ Hid (Below w.heap.size w wr)) (fun _ i _ => n - (intOf i).toNat)
 case atStart => exact ⟨0, _, [], Nat.zero_le _, rfl, rfl, GridB.nil _ _ _, Blk.made _ _ _, (Below.refl _ _).alloc (Nat.le_refl _) _⟩
 case round =>
  obtain ⟨q, v, gs, hq, rfl, rfl, hG, hMb, hb⟩ := hrel
  obtain ⟨w2, hw2⟩ : ∃ w2, w2 = wr := ⟨_, rfl⟩
  subst hw2
  obtain ⟨av, cv, hv⟩ := hG.out.sl
  rw [List.length_replicate] at hv
  subst hv
  by_cases hlt : q < n
  ·have hq1 : (q : Int) < (n : Int) := by omega
   have hA := (Below.refl w2.heap.size w2).alloc (Nat.le_refl _) (.cells (Array.replicate n (Value.bool false)) 4)
   have hrow : Blk (w2.alloc (.cells (Array.replicate n (Value.bool false)) 4)) w2.heap.size ((List.replicate n false).map Value.bool).toArray 4 := by
    rw [show ((List.replicate n false).map Value.bool).toArray = Array.replicate n (Value.bool false) from by simp]
    exact Blk.made _ _ _
   obtain ⟨ap, cp, w7, hr7, hg7, hb7⟩ := hG.out.push hA (by have := hMb.out.lt; omega) (Nat.le_refl _) hrow (by simp) (by simp; omega)
   rw [List.length_replicate] at hr7 hg7
   rw [World.size_alloc] at hr7
   have R7 := hidP hr7
   have G7 : Hid (GridB w7 (w.heap.size + 1) n (.slice ap (q + 1) cp) (gs ++ [w2.heap.size]) (List.replicate (q + 1) (List.replicate n false))) := by
    (show GridB _ _ _ _ _ _)
    rw [List.replicate_succ']
    exact hg7
   have HB7 := hidP (hb.out.trans ((hA.mono hb.out.size).trans (hb7.mono (by omega))))
   have K7 : Hid (Blk w7 w.heap.size #[.int .i64 z, .slice a n cap] 24) := (hMb.out.below hA hMb.out.lt).below hb7 (by omega)
   clear hr7 hg7 hb7 hA hrow
   go_wp2_with (first
    | (at_builtin; refine wpListAppendRun rfl _ _ 45 rfl rfl rfl R7.out ?_; clear R7))
   go_roundw
   case rel => exact ⟨q + 1, _, _, by omega, rfl, by go_num, G7, K7, HB7⟩
   case measure => simp [intOf]; omega
  ·have hq1 : ¬ (q : Int) < (n : Int) := by omega
   obtain rfl : n = q := by omega
   have HT0 := hidP (HTS.out n rfl).again
   have HG := hidP hG.out
   obtain ⟨d, hd⟩ : ∃ d, List.replicate n (List.replicate n false) = d := ⟨_, rfl⟩
   rw [hd] at HG HT0
   clear hd HTS
   go_wp2
   clear hG
   go_loopw [6] (fun ag wr => ∃ (b : Bool) (d : List (List Bool)), ag = .bool b ∧ Hid (TelI l d d false 0 0) ∧ Hid (b = false → ∀ i j, i < n → j < n → (tabU d i j = true ↔ Aprt l i j)) ∧ Hid (GridB wr (w.heap.size + 1) n (.slice av n cv) gs d) ∧ Hid (Blk wr w.heap.size #[.int .i64 z, .slice a n cap] 24) ∧ Hid (Below w.heap.size w wr)) (fun ag wr => 2 * falG wr gs + boolL ag)
   case atStart => exact ⟨true, d, rfl, HT0, fun h => absurd h (by decide), HG, hMb, hb⟩
   case round =>
    clear HT0 HG hMb hb
    obtain ⟨b, d0, rfl, hT0, hD0, hG0, hK0, hb0⟩ := hrel
    cases b
    ·have HD := hidP (hD0.out rfl)
     have hdl : d0.length = n := by rw [hT0.out.len, HN.out]
     clear hD0
     go_wp2
     go_ret
     first | exact ⟨_, gs, d0, rfl, hG0.out, ⟨hdl, HD.out⟩, hb0.out⟩ | exact ⟨_, rfl, gs, d0, hG0.out, ⟨hdl, HD.out⟩, hb0.out⟩ | exact ⟨_, rfl, gs, d0, hG0.out, hdl, HD.out, hb0.out⟩
    ·clear hD0
     have HMS : Hid (falG wr gs = notU d0) := falG_of hG0.out
     go_wp2
     obtain ⟨w2, rfl⟩ : ∃ w2, w2 = wr := ⟨_, rfl⟩
     go_loopw [6, 7] (fun ag i wr => ∃ (b : Bool) (q : Nat) (d : List (List Bool)), ag = .bool b ∧ i = .int .i64 q ∧ q ≤ n ∧ Hid (TelI l d0 d b q 0) ∧ Hid (GridB wr (w.heap.size + 1) n (.slice av n cv) gs d) ∧ Hid (Blk wr w.heap.size #[.int .i64 z, .slice a n cap] 24) ∧ Hid (Below w.heap.size w wr)) (fun _ i _ => n - (intOf i).toNat)
     case atStart => exact ⟨false, 0, d0, rfl, rfl, Nat.zero_le _, hT0, hG0, hK0, hb0⟩
     case round =>
      clear hT0 hG0 hK0 hb0
      obtain ⟨b, q, d, rfl, rfl, hq, hT, hG, hMb, hb⟩ := hrel
      by_cases hlt : q < n
      ·have hq0 : (0 : Int) ≤ (q : Int) := by omega
       have hq1 : (q : Int) < (n : Int) := by omega
       go_wp2
       go_loopw [6, 8] (fun ag i wr => ∃ (b : Bool) (p : Nat) (d : List (List Bool)), ag = .bool b ∧ i = .int .i64 p ∧ p ≤ n ∧ Hid (TelI l d0 d b q p) ∧ Hid (GridB wr (w.heap.size + 1) n (.slice av n cv) gs d) ∧ Hid (Blk wr w.heap.size #[.int .i64 z, .slice a n cap] 24) ∧ Hid (Below w.heap.size w wr)) (fun _ i _ => n - (intOf i).toNat)
       case atStart => exact ⟨b, 0, d, rfl, rfl, Nat.zero_le _, hT, hG, hMb, hb⟩
       case round =>
        clear hT hG hMb hb
        obtain ⟨b, p, d, rfl, rfl, hp, hT, hG, hMb, hb⟩ := hrel
        obtain ⟨w3, hw3⟩ : ∃ w3, w3 = wr := ⟨_, rfl⟩
        subst hw3
        by_cases hpl : p < n
        ·have hp0 : (0 : Int) ≤ (p : Int) := by omega
         have hp1 : (p : Int) < (n : Int) := by omega
         have hdl : d.length = n := by rw [hT.out.len, HN.out]
         obtain ⟨Gb, cG, hve, hGb, hGl, hcs⟩ := hG.out.cells (by omega)
         rw [hdl] at hve hcs
         simp only [Value.slice.injEq, true_and] at hve
         obtain ⟨hva, hvc⟩ := hve
         subst hva
         subst hvc
         have cq := hcs q hlt
         have c1 := hG.out.get (q := q) (p := p) (by omega) hpl
         have f1 := hG.out.fz (q := q) (by omega) p
         have hGq : w.heap.size + 1 ≤ el gs q := (hG.out.2.2.1 q (by rw [hG.out.1]; omega)).1
         have HGS := hidP (hG.out.set (q := q) (p := p) (by omega) hpl true)
         rw [setU_putB] at HGS
         have HTU : Hid (tabU d q p = el (el d q) p) := rfl
         have hbq : Below w3.heap.size w3 w3.drew := (Below.refl _ _).drew
         clear hcs
         by_cases e1 : el (el d q) p = true
         ·have HI' := hidP (hT.out.keep (fun h => by rw [HTU.out, e1] at h; cases h))
          rw [e1] at c1
          generalize el gs q = Bq at *
          clear e1 HTU HGS
          go_wp2
          go_quiet (fail)
          go_wp2
          go_roundw
          case rel => exact ⟨b, p + 1, d, rfl, by go_num, by omega, HI', hG.out.later (below_drewA (Below.refl _ _) _), hMb.out.below (below_drewA (Below.refl _ _) _) hMb.out.lt, below_drewA hb.out _⟩
          case measure => simp [intOf]; omega
         ·have e1 : el (el d q) p = false := by simpa using e1
          rw [e1] at c1
          obtain ⟨b3, off, v1, hab, hbl, s0, s1, sA⟩ := HC.out q hlt
          obtain ⟨b3', off', v2, hab', hbl', t0, t1, tA⟩ := HC.out p hpl
          rw [hab] at hab'
          injection hab' with hab'
          injection hab' with hb1 hb2 _
          subst hb1 hb2
          subst hab
          have s0 := (hb.out.cell (p := ⟨b3, off + q * 2, none⟩) hbl).trans s0
          have s1 := (hb.out.cell (p := ⟨b3, off + q * 2 + 1, none⟩) hbl).trans s1
          have t0 := (hb.out.cell (p := ⟨b3, off + p * 2, none⟩) hbl).trans t0
          have t1 := (hb.out.cell (p := ⟨b3, off + p * 2 + 1, none⟩) hbl).trans t1
          have m1 := hMb.out.cell 1 (v := .slice (some ⟨b3, off, none⟩) n cap) rfl
          obtain ⟨res, hres⟩ : ∃ res, apaB d ((el l q).1, (el l q).2) ((el l p).1, (el l p).2) = res := ⟨_, rfl⟩
          have hap : aptB l (tabU d) q p = res := by rw [← apa_apt]; exact hres
          have HAP := hidP hap
          have HE1 : Hid (tabU d q p = false) := by (show _ = _); rw [HTU.out]; exact e1
          have HCALL := hidP (apart_any (el l q).1 (el l p).1 v1 v2 (.slice (some ⟨Gb, 0, none⟩) n cv) (el l q).2 (el l p).2 (w.heap.size + 1) n gs d w3.drew (sA.later (hb.out.drew) (Nat.le_refl _)) (tA.later (hb.out.drew) (Nat.le_refl _)) (hG.out.later hbq) hdl (HST.out q hlt) (HTO.out q hlt) (HTO.out p hpl) res hres)
          have HS : HeldLb Gb q (el gs q) p w.heap.size (.slice (some ⟨el gs q, 0, none⟩) n n) false (.slice (some ⟨b3, off, none⟩) n cap) b3 (off + q * 2) (off + p * 2) (el l q).1 (el l p).1 v1 v2 w3.drew := ⟨cq, c1, m1, s0, s1, t0, t1⟩
          have HKE := hidP (fun h => hT.out.keep h)
          have HPU := hidP (fun h => HPUT.out d0 d b q p hT.out hlt hpl HE1.out h)
          clear e1 HTU hap hres sA tA s0 s1 t0 t1 m1 cq c1 hT
          generalize (el l q).1 = fq at *
          generalize (el l p).1 = fp at *
          obtain ⟨Bq, hBq⟩ : ∃ Bq, el gs q = Bq := ⟨_, rfl⟩
          rw [hBq] at HS hGq f1 HGS
          have HBQ := hidP hBq
          clear hBq f1 HGS
          go_wp2
          refine region_anyL (HeldLb Gb q Bq p w.heap.size (.slice (some ⟨Bq, 0, none⟩) n n) false (.slice (some ⟨b3, off, none⟩) n cap) b3 (off + q * 2) (off + p * 2) fq fp v1 v2) 1000 (by kernel_rfl) ?_
          refine anyL_tk (i := 0) (v := ?v0_1) aZ0 (by kernel_rfl) ?y0_1 HS ?r0_1
          case y0_1 => intro wx hx; obtain ⟨h0, h1, h2, h3, h4, h5, h6⟩ := hx; go_simp; try (with_reducible rfl)
          simp only [Act.put, List.setIfInBounds_toArray, List.set_cons_zero, List.set_cons_succ]
          refine anyL_tk (i := 1) (v := ?v1_2) aZ1 (by kernel_rfl) ?y1_2 HS ?r1_2
          case y1_2 => intro wx hx; obtain ⟨h0, h1, h2, h3, h4, h5, h6⟩ := hx; go_simp; try (with_reducible rfl)
          simp only [Act.put, List.setIfInBounds_toArray, List.set_cons_zero, List.set_cons_succ]
          refine anyL_tk (i := 2) (v := ?v2_3) aZ2 (by kernel_rfl) ?y2_3 HS ?r2_3
          case y2_3 => intro wx hx; obtain ⟨h0, h1, h2, h3, h4, h5, h6⟩ := hx; go_simp; try (with_reducible rfl)
          simp only [Act.put, List.setIfInBounds_toArray, List.set_cons_zero, List.set_cons_succ]
          refine anyL_tk (i := 3) (v := ?v3_4) aZ3 (by kernel_rfl) ?y3_4 HS ?r3_4
          case y3_4 => intro wx hx; obtain ⟨h0, h1, h2, h3, h4, h5, h6⟩ := hx; go_simp; try (with_reducible rfl)
          simp only [Act.put, List.setIfInBounds_toArray, List.set_cons_zero, List.set_cons_succ]
          refine anyL_tk (i := 4) (v := ?v4_5) aZ4 (by kernel_rfl) ?y4_5 HS ?r4_5
          case y4_5 => intro wx hx; obtain ⟨h0, h1, h2, h3, h4, h5, h6⟩ := hx; go_simp; try (with_reducible rfl)
          simp only [Act.put, List.setIfInBounds_toArray, List.set_cons_zero, List.set_cons_succ]
          refine anyL_tk (i := 5) (v := ?v5_6) aZ5 (by kernel_rfl) ?y5_6 HS ?r5_6
          case y5_6 => intro wx hx; obtain ⟨h0, h1, h2, h3, h4, h5, h6⟩ := hx; go_simp; try (with_reducible rfl)
          simp only [Act.put, List.setIfInBounds_toArray, List.set_cons_zero, List.set_cons_succ]
          refine anyL_tk (i := 6) (v := ?v6_7) aZ6 (by kernel_rfl) ?y6_7 HS ?r6_7
          case y6_7 => intro wx hx; obtain ⟨h0, h1, h2, h3, h4, h5, h6⟩ := hx; go_simp; try (with_reducible rfl)
          simp only [Act.put, List.setIfInBounds_toArray, List.set_cons_zero, List.set_cons_succ]
          refine anyL_tk (i := 7) (v := ?v7_8) aZ7 (by kernel_rfl) ?y7_8 HS ?r7_8
          case y7_8 => intro wx hx; obtain ⟨h0, h1, h2, h3, h4, h5, h6⟩ := hx; go_simp; try (with_reducible rfl)
          simp only [Act.put, List.setIfInBounds_toArray, List.set_cons_zero, List.set_cons_succ]
          refine anyL_tk (i := 8) (v := ?v8_9) aZ8 (by kernel_rfl) ?y8_9 HS ?r8_9
          case y8_9 => intro wx hx; obtain ⟨h0, h1, h2, h3, h4, h5, h6⟩ := hx; go_simp; try (with_reducible rfl)
          simp only [Act.put, List.setIfInBounds_toArray, List.set_cons_zero, List.set_cons_succ]
          refine anyL_tg (i := 9) (v := ?v9_11) aZ9 (by kernel_rfl) ?y9_11 HS ?r9_11
          case y9_11 => intro wx hx; obtain ⟨h0, h1, h2, h3, h4, h5, h6⟩ := hx; go_simp; try (with_reducible rfl)
          simp only [Act.put, List.setIfInBounds_toArray, List.set_cons_zero, List.set_cons_succ]
          refine anyL_tg (i := 10) (v := ?v10_12) aZ10 (by kernel_rfl) ?y10_12 HS ?r10_12
          case y10_12 => intro wx hx; obtain ⟨h0, h1, h2, h3, h4, h5, h6⟩ := hx; go_simp; try (with_reducible rfl)
          simp only [Act.put, List.setIfInBounds_toArray, List.set_cons_zero, List.set_cons_succ]
          refine anyL_tg (i := 11) (v := ?v11_13) aZ11 (by kernel_rfl) ?y11_13 HS ?r11_13
          case y11_13 => intro wx hx; obtain ⟨h0, h1, h2, h3, h4, h5, h6⟩ := hx; go_simp; try (with_reducible rfl)
          simp only [Act.put, List.setIfInBounds_toArray, List.set_cons_zero, List.set_cons_succ]
          refine anyL_tg (i := 12) (v := ?v12_14) aZ12 (by kernel_rfl) ?y12_14 HS ?r12_14
          case y12_14 => intro wx hx; obtain ⟨h0, h1, h2, h3, h4, h5, h6⟩ := hx; go_simp; try (with_reducible rfl)
          simp only [Act.put, List.setIfInBounds_toArray, List.set_cons_zero, List.set_cons_succ]
          refine anyL_tg (i := 13) (v := ?v13_15) aZ13 (by kernel_rfl) ?y13_15 HS ?r13_15
          case y13_15 => intro wx hx; obtain ⟨h0, h1, h2, h3, h4, h5, h6⟩ := hx; go_simp; try (with_reducible rfl)
          simp only [Act.put, List.setIfInBounds_toArray, List.set_cons_zero, List.set_cons_succ]
          refine anyL_tg (i := 14) (v := ?v14_16) aZ14 (by kernel_rfl) ?y14_16 HS ?r14_16
          case y14_16 => intro wx hx; obtain ⟨h0, h1, h2, h3, h4, h5, h6⟩ := hx; go_simp; try (with_reducible rfl)
          simp only [Act.put, List.setIfInBounds_toArray, List.set_cons_zero, List.set_cons_succ]
          refine anyL_tg (i := 15) (v := ?v15_17) aZ15 (by kernel_rfl) ?y15_17 HS ?r15_17
          case y15_17 => intro wx hx; obtain ⟨h0, h1, h2, h3, h4, h5, h6⟩ := hx; go_simp; try (with_reducible rfl)
          simp only [Act.put, List.setIfInBounds_toArray, List.set_cons_zero, List.set_cons_succ]
          refine anyL_tg (i := 16) (v := ?v16_18) aZ16 (by kernel_rfl) ?y16_18 HS ?r16_18
          case y16_18 => intro wx hx; obtain ⟨h0, h1, h2, h3, h4, h5, h6⟩ := hx; go_simp; try (with_reducible rfl)
          simp only [Act.put, List.setIfInBounds_toArray, List.set_cons_zero, List.set_cons_succ]
          refine anyL_tg (i := 17) (v := ?v17_19) aZ17 (by kernel_rfl) ?y17_19 HS ?r17_19
          case y17_19 => intro wx hx; obtain ⟨h0, h1, h2, h3, h4, h5, h6⟩ := hx; go_simp; try (with_reducible rfl)
          simp only [Act.put, List.setIfInBounds_toArray, List.set_cons_zero, List.set_cons_succ]
          refine anyL_tg (i := 18) (v := ?v18_20) aZ18 (by kernel_rfl) ?y18_20 HS ?r18_20
          case y18_20 => intro wx hx; obtain ⟨h0, h1, h2, h3, h4, h5, h6⟩ := hx; go_simp; try (with_reducible rfl)
          simp only [Act.put, List.setIfInBounds_toArray, List.set_cons_zero, List.set_cons_succ]
          refine anyL_tg (i := 19) (v := ?v19_21) aZ19 (by kernel_rfl) ?y19_21 HS ?r19_21
          case y19_21 => intro wx hx; obtain ⟨h0, h1, h2, h3, h4, h5, h6⟩ := hx; go_simp; try (with_reducible rfl)
          simp only [Act.put, List.setIfInBounds_toArray, List.set_cons_zero, List.set_cons_succ]
          refine anyL_oneG (i := 20) aZ20 (by kernel_rfl) (by rfl) (fun K hK => ?_)
          go_simp
          with_reducible refine HCALL.out.mono ?_
          rintro e w5 ⟨rfl, hb5⟩
          have HS5 := HS.later hb5
          have HB5 := hidP (hbq.trans hb5)
          clear hb5
          refine hK _ _ (.inr HS5) ?_
          try simp only [Act.put, List.setIfInBounds_toArray, List.set_cons_zero, List.set_cons_succ]
          refine anyL_tk (i := 21) (v := ?v21_10) aZ21 (by kernel_rfl) ?y21_10 HS5 ?r21_10
          case y21_10 => intro wx hx; obtain ⟨h0, h1, h2, h3, h4, h5, h6⟩ := hx; go_simp; try (with_reducible rfl)
          simp only [Act.put, List.setIfInBounds_toArray, List.set_cons_zero, List.set_cons_succ]
          refine anyL_done (by kernel_rfl) (NoPanic.normal ?_)
          try simp only [Act.put, List.setIfInBounds_toArray, List.set_cons_zero, List.set_cons_succ]
          have G5 := hidP (hG.out.later HB5.out)
          have M5 := hidP (hMb.out.below HB5.out hMb.out.lt)
          have W5 := hidP (hb.out.trans (HB5.out.mono hb.out.size))
          have f5 := G5.out.fz (q := q) (by omega) p
          have HGS5 := hidP (G5.out.set (q := q) (p := p) (by omega) hpl true)
          rw [setU_putB] at HGS5
          rw [HBQ.out] at f5 HGS5
          obtain ⟨h0, h1, h2, h3, h4, h5, h6⟩ := HS5
          clear HS HCALL h2 h3 h4 h5 h6 HB5 hG hbq hb
          cases res
          ·have HN5 := hidP (HKE.out (fun _ => HAP.out))
           clear h0 h1 f5 HGS5
           go_wp2
           go_roundw
           case rel => exact ⟨b, p + 1, d, rfl, by go_num, by omega, HN5, G5, M5, W5⟩
           case measure => simp [intOf]; omega
          ·have HN5 := hidP (HPU.out HAP.out)
           have W6 := hidP (W5.out.setCell (p := ⟨Bq, p, none⟩) (by show w.heap.size ≤ Bq; omega) (.bool true))
           have M6 : Hid (Blk (w5.setCell ⟨Bq, p, none⟩ (.bool true)) w.heap.size #[.int .i64 z, .slice (some ⟨b3, off, none⟩) n cap] 24) := M5.out.setO _ _ (by show w.heap.size ≠ Bq; omega)
           clear M5 W5 G5
           go_wp2
           go_roundw
           case rel => exact ⟨true, p + 1, setU d q p, rfl, by go_num, by omega, HN5, HGS5, M6, W6⟩
           case measure => simp [intOf]; omega
        ·have p1 : ¬ (p : Int) < (n : Int) := by omega
         obtain rfl : n = p := by omega
         have HW := hidP (hT.out.row (by rw [HN.out]; exact Nat.le_refl _))
         go_wp2
         go_roundw
         case rel => exact ⟨b, q + 1, d, rfl, by go_num, by omega, HW, hG, hMb, hb⟩
         case measure => simp [intOf]; omega
      ·have q1 : ¬ (q : Int) < (n : Int) := by omega
       obtain rfl : n = q := by omega
       have HSU : Hid (falG wr gs = notU d) := falG_of hG.out
       have HTA := hidP hT.out.again
       have HAL2 : Hid (b = false → ∀ i j, i < n → j < n → (tabU d i j = true ↔ Aprt l i j)) := fun hbf => by
        have h9 := hT.out
        rw [hbf] at h9
        exact HALL.out d0 d n 0 h9 (Nat.le_refl _)
       have HYE := hidP (fun h => hT.out.yes h)
       have HNO := hidP (fun h => (hT.out.no h).1)
       go_wp2
       go_roundw
       case rel => exact ⟨b, d, rfl, HTA, HAL2, hG, hMb, hb⟩
       case measure =>
        rw [HSU.out, HMS.out]
        cases b
        ·rw [HNO.out rfl]; simp [boolL]
        ·have := HYE.out rfl; simp [boolL]; omega
end Go.Proofs.YthajkkobgfighaaGreatDoor.Wt
