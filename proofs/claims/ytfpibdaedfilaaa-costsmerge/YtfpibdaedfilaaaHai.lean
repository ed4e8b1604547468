/- distance.least: what a way to each state costs at least. -/
import Derived.Test.YtfpibdaedfilaaaHah
import Derived.Test.YtfpibdaedfilaaaHab
import Derived.Test.YtfpibdaedfilaaaHaa
import Derived.Shelf.Abstract
namespace Go.Proofs.Ytfpibdaedfilaaa.Dw
open Go.ChangeShapes Go.WideShapes Go.ChangeAt Go.RowKit
open Go.Proofs.Ytfpibdaedfilaaa.Pl Go.Proofs.Ytfpibdaedfilaaa.Wt
set_option linter.unusedVariables false
set_option linter.unusedSimpArgs false
theorem run_boolsD (n : Nat) (hn : n ≤ 1000) (W : World) : (Instr.makeSlice 89 (.int .i64 (n : Int)) (.int .i64 (n : Int))).run Try.prog W = .ok (.slice (some ⟨W.heap.size, 0, none⟩) n n) (W.alloc (.cells ((List.replicate n false).map Value.bool).toArray 4)) := by
 obtain ⟨i1, hi1, hy0, hy1, hy2⟩ := info_parts infoBool
 have h := run_make (P := Try.prog) W 89 4 i1 _ Try.underlying89 hi1 hy0 .i64 .i64 n n (by omega) (by omega) (by rw [hy2]; omega) (by omega)
 rw [hy1, Int.toNat_natCast, made_bools] at h
 exact h
theorem LstAt.made {w w1 : World} {C N : Nat} {cs : List Int} (hC : Blk w1 C (cs.map (Value.int .i64)).toArray 3) (hb : Below w.heap.size w w1) (h0 : w.heap.size ≤ C) :
  LstAt w (((w1.alloc (.cells (Array.replicate N (Value.bool false)) 4)).alloc (.cells #[.slice (some ⟨w1.heap.size, 0, none⟩) N N] 89)).alloc (.cells #[.slice none 0 0] 117)) C w1.heap.size (w1.heap.size + 1) (w1.heap.size + 1 + 1) N (.slice none 0 0) [] (List.replicate N false) cs := by
 have k1 := Blk.made w1 (Array.replicate N (Value.bool false)) 4
 have k2 := Blk.made (w1.alloc (.cells (Array.replicate N (Value.bool false)) 4)) #[.slice (some ⟨w1.heap.size, 0, none⟩) N N] 89
 have k3 := Blk.made ((w1.alloc (.cells (Array.replicate N (Value.bool false)) 4)).alloc (.cells #[.slice (some ⟨w1.heap.size, 0, none⟩) N N] 89)) #[.slice none 0 0] 117
 simp only [World.size_alloc] at k1 k2 k3
 have e : ((List.replicate N false).map Value.bool).toArray = Array.replicate N (Value.bool false) := by simp
 have hs := hb.size
 refine ⟨((hC.alloc _).alloc _).alloc _, by rw [e]; exact (k1.alloc _).alloc _, k2.alloc _, k3, World.ownsRow_nil _ _ _ _, ((hb.alloc hs _).alloc (by simp; omega) _).alloc (by simp; omega) _, h0, hC.lt, by omega, by omega, by simp⟩
def HeldL (G V E N p c : Nat) (w : World) : Prop := w.cell? ⟨G, 0, none⟩ = some (.int .i64 (p : Int)) ∧ w.cell? ⟨G, 1, none⟩ = some (.int .i64 (c : Int)) ∧ w.cell? ⟨V, 0, none⟩ = some (.slice (some ⟨E, 0, none⟩) N N)
def HeldN (G T p c : Nat) (v : Value) (w : World) : Prop := w.cell? ⟨G, 0, none⟩ = some (.int .i64 (p : Int)) ∧ w.cell? ⟨G, 1, none⟩ = some (.int .i64 (c : Int)) ∧ w.cell? ⟨T, p, none⟩ = some v
theorem blk_neD {w : World} {a b : Nat} {cs cs' : Array Value} {t t' : TypeId} (h1 : Blk w a cs t) (h2 : Blk w b cs' t') (ht : t ≠ t') : a ≠ b := fun e => by
 subst e
 unfold Blk at h1 h2
 rw [h1] at h2
 simp at h2
 exact ht h2.2
theorem cnt_less {bs : List Bool} {p : Nat} (hp : p < bs.length) (hf : el bs p = false) : (bs.set p true).count false + 1 = bs.count false := count_set hp hf
set_option maxRecDepth 100000 in
set_option maxHeartbeats 6400000 in
theorem least_any {S : Nat → List Ar} {P : Nat → Nat → Prop} (N T : Nat) (vF : Value) (rows : List Value) (w : World) (hN : N ≤ 60) (hS : StpR S N) (hP : ∀ q c, q < N → (P q c ↔ RchD S N q c)) (hF : Row 2 encD w vF (S N)) (hT : T < w.heap.size) (hrow : ∀ q, q < N → w.cell? ⟨T, q, none⟩ = some (el rows q) ∧ Row 2 encD w (el rows q) (S q)) :
  Calls Try.prog 46 #[vF, .slice (some ⟨T, 0, none⟩) N N] w fun e w' => LstRes (LstAns P N) w e w' := by
 have HS := hidP hS
 have HP := hidP hP
 have HRW := hidP hrow
 have HF := hidP hF
 have hmk := run_nums N (by omega)
 have hmb := run_boolsD N (by omega)
 have hta := assert_way
 clear hS hP hrow hF
 obtain ⟨C, hCe⟩ : ∃ C, C = w.heap.size := ⟨_, rfl⟩
 have HCE := hidP hCe
 clear hCe
 go_enter Try.func46, Try.ntmps46
 go_wp2
 rw [← HCE.out]
 go_loopw [17] (fun i wr => ∃ (q : Nat) (cs : List Int), q ≤ N ∧ i = .int .i64 q ∧ Hid (cs.length = N ∧ ∀ j, j < q → el cs j = 1000000001) ∧ Hid (Blk wr C (cs.map (Value.int .i64)).toArray 3) ∧ Hid (Below w.heap.size w wr)) (fun i _ => N - (intOf i).toNat)
 case atStart =>
  refine ⟨0, List.replicate N 0, Nat.zero_le _, rfl, ⟨by simp, fun j hj => absurd hj (by omega)⟩, ?_, (Below.refl _ _).alloc (Nat.le_refl _) _⟩
  have h9 := Blk.made w ((List.replicate N (0 : Int)).map (Value.int .i64)).toArray 3
  rw [← HCE.out] at h9
  simp only [List.map_replicate, List.toArray_replicate] at h9 ⊢
  exact h9
 case round =>
  obtain ⟨q, cs, hq, rfl, hc, hB, hb⟩ := hrel
  by_cases hqn : q < N
  ·have hq0 : (0 : Int) ≤ (q : Int) := by omega
   have hq1 : (q : Int) < (N : Int) := by omega
   have y0 := num_cell hB.out (j := q) (by rw [hc.out.1]; exact hqn)
   have y1 := hB.out.fz q
   have HB2 : Hid (Blk (wr.setCell ⟨C, q, none⟩ (.int .i64 1000000001)) C ((cs.set q 1000000001).map (Value.int .i64)).toArray 3) := by have h9 := hB.out.set q (.int .i64 1000000001); rw [set_num] at h9; exact h9
   have HC2 : Hid ((cs.set q 1000000001).length = N ∧ ∀ j, j < q + 1 → el (cs.set q 1000000001) j = 1000000001) := by
    refine ⟨by rw [List.length_set]; exact hc.out.1, fun j hj => ?_⟩
    rw [el_setT (by rw [hc.out.1]; exact hqn)]
    split
    ·rfl
    ·exact hc.out.2 j (by omega)
   have HL2 : Hid (Below w.heap.size w (wr.setCell ⟨C, q, none⟩ (.int .i64 1000000001))) := hb.out.setCell (p := ⟨C, q, none⟩) (by rw [HCE.out]; exact Nat.le_refl _) _
   go_wp2
   go_roundw
   case rel => exact ⟨q + 1, cs.set q 1000000001, by omega, by go_num, HC2, HB2, HL2⟩
   case measure => simp [intOf]; omega
  ·have hnl : ¬ (q : Int) < (N : Int) := by omega
   have hqe : q = N := by omega
   subst hqe
   obtain ⟨w1, hw1⟩ : ∃ w1, w1 = wr := ⟨_, rfl⟩
   subst hw1
   have HT0 := hidP (LstAt.made (N := q) hB.out hb.out (by rw [HCE.out]; exact Nat.le_refl _))
   have HDC0 := hidP (DonC.start q hc.out.1 hc.out.2)
   have HP0 := hidP (put_any (D := srcD q) w _ C w1.heap.size (w1.heap.size + 1) (w1.heap.size + 1 + 1) q q 0 _ vF [] _ cs HT0.out HS.out DijD.start (if_pos rfl) (DonB.start q) HeapW.nil (by simp) (Nat.le_refl _) HF.out hN (by omega))
   clear hc hB hb
   go_wp2_with (first
    | (go_at_call 69; (refine HP0.out.mono ?_); rintro e w2 ⟨rfl, v2, hs2, ht2, hd2, hh2, hl2, _⟩; have HT2 := hidP ht2; have HI2 : Hid (DijD S q (srcD q) hs2 (fun _ _ => False) 0 ∧ HeapW hs2 hs2.length ∧ (List.replicate q false).count false * 401 + hs2.length ≤ 30000) := ⟨hd2, hh2, by simp at hl2 ⊢; omega⟩; clear ht2 hd2 hh2 hl2))
   clear HP0 HT0
   generalize hE : w1.heap.size = E at *
   generalize hV : E + 1 = V at *
   generalize hB : V + 1 = B at *
   clear hE hV hB
   go_loopw [] (fun wr => ∃ (D : Nat → Option Nat) (hs : List Ar) (v : Value) (b : Nat) (bs : List Bool) (cs : List Int), Hid (DijD S q D hs (fun _ _ => False) b ∧ HeapW hs hs.length ∧ bs.count false * 401 + hs.length ≤ 30000) ∧ Hid (DonB D bs q ∧ DonC D cs q) ∧ Hid (LstAt w wr C E V B q v hs bs cs)) (fun wr => falses wr E * 401 + lenAtD wr B)
   case atStart => exact ⟨_, hs2, v2, 0, _, cs, HI2, ⟨DonB.start q, HDC0.out⟩, HT2⟩
   case round =>
    clear HI2 HDC0 HT2
    obtain ⟨D, hs, v, b, bs, cs, hI, hDn, hT⟩ := hrel
    obtain ⟨w3, hw3⟩ : ∃ w3, w3 = wr := ⟨_, rfl⟩
    subst hw3
    have hlen : hs.length ≤ 30000 := by have := hI.out.2.2; omega
    have HMS : Hid (falses w3 E * 401 + lenAtD w3 B = bs.count false * 401 + hs.length) := by show _ = _; rw [hT.out.few, hT.out.len]
    obtain ⟨av, cv, hv⟩ := own_slW hT.out.heap
    subst hv
    have cB := hT.out.var.cell 0 (v := .slice av hs.length cv) rfl
    by_cases hz : hs.length = 0
    ·have hz' : ((hs.length : Nat) : Int) = 0 := by omega
     have HAN : Hid (LstAns P q cs 0) := by
      have h9 := hI.out.1
      rw [List.eq_nil_of_length_eq_zero hz] at h9
      exact h9.ans HS.out HP.out hDn.out.2.1 hDn.out.2.2
     have HNU : Hid (Nums w3 (.slice (some ⟨C, 0, none⟩) q q) cs) := by have h9 := nums_block (cap := q) hT.out.cst; rw [hDn.out.2.1] at h9; exact h9
     go_wp2_with (first
      | (go_at_call 71; (with_reducible refine (wLen_any _ _ _ _).mono ?_); rintro e w4 ⟨rfl, rfl⟩))
     go_ret2
     exact ⟨_, cs, 0, rfl, HAN.out, HNU.out, hT.out.below⟩
    ·have hz' : (0 : Int) < ((hs.length : Nat) : Int) := by omega
     have HPO := hidP (whPop_ex B (B + 1) _ hs w3 hT.out.var hT.out.heap (by omega) (by omega) hI.out.2.1 hI.out.1)
     go_wp2_with (first
      | (go_at_call 71; (with_reducible refine (wLen_any _ _ _ _).mono ?_); rintro e w4 ⟨rfl, rfl⟩)
      | (go_at_call 72; ((with_reducible refine HPO.out.mono ?_); rintro e w5 ⟨p, c, rfl, hpq, hc2, v5, hs5, hh5, hp5, hle5, hb5, ho5, ht5⟩; have HT5 := hidP ((hT.out.turn ht5 hb5 ho5).alloc (.cells #[.int .i64 (p : Int), .int .i64 (c : Int)] 119)); have HQ5 : Hid (HeapW hs5 hs5.length ∧ (wyD p c :: hs5).Perm hs ∧ (∀ a ∈ hs5, (c : Int) ≤ a.2.2.2)) := ⟨hh5, hp5, hle5⟩; have HB5 : Hid (Blk (w5.alloc (.cells #[.int .i64 (p : Int), .int .i64 (c : Int)] 119)) w5.heap.size #[.int .i64 (p : Int), .int .i64 (c : Int)] 119) := Blk.made _ _ _; have HGR : Hid (some w5.heap.size ≠ v5.ownBlock) := (fun e9 => (by have h9 := (ho5.lt _ e9.symm).2; omega)); have hL5 : hs.length = hs5.length + 1 := (by have h9 := hp5.length_eq; rw [List.length_cons] at h9; exact h9.symm); clear hh5 hp5 hle5 hb5 ho5 ht5; have p0 : (0 : Int) ≤ (p : Int) := Int.natCast_nonneg _; have p1 : (p : Int) < (q : Int) := (by omega); have cV := HT5.out.dvr.cell 0 (v := .slice (some ⟨E, 0, none⟩) q q) rfl; have cE := bool_cell HT5.out.don (j := p) (by rw [hDn.out.1.1]; exact hpq); rcases bool_cases' (el bs p) with hf | hf <;> rw [hf] at cE; case' inr => (by_cases hov : (1000000000 : Int) < (c : Int)))))
     ·go_ret2
      exact ⟨_, [], 4, rfl, hI.out.1.over HS.out HP.out HQ5.out.2.1 HQ5.out.2.2 (hDn.out.1.none hpq hf) (by omega), .inl ⟨rfl, rfl⟩, HT5.out.below⟩
     ·have HNO := hidP (hDn.out.1.none hpq hf)
      have hov2 : c ≤ 1000000000 := by omega
      have HNW := hidP (hI.out.1.new HQ5.out.2.1 HQ5.out.2.2 HNO.out hov2)
      have HPB := hidP (hDn.out.1.put hpq c)
      have HPC := hidP (hDn.out.2.put hpq c)
      have hcnt := cnt_less (bs := bs) (p := p) (by rw [hDn.out.1.1]; exact hpq) hf
      generalize hW : w5.alloc (.cells #[.int .i64 (p : Int), .int .i64 (c : Int)] 119) = W5 at *
      generalize hG : w5.heap.size = G at *
      clear hW hG hf cE cV
      have HS6 : HeldL G V E q p c W5.drew := ⟨HB5.out.cell 0 rfl, HB5.out.cell 1 rfl, HT5.out.dvr.cell 0 rfl⟩
      have hGC : G ≠ C := blk_neD HB5.out HT5.out.cst (by decide)
      have hGE : G ≠ E := blk_neD HB5.out HT5.out.don (by decide)
      have hGB : G ≠ B := blk_neD HB5.out HT5.out.var (by decide)
      have hVC : V ≠ C := by have := HT5.out.s1; have := HT5.out.s2; omega
      have T6 := hidP (HT5.out.setC p (c : Int))
      have T7 := hidP (T6.out.setE p).drew
      have B6 : Hid (Blk (W5.setCell ⟨C, p, none⟩ (.int .i64 (c : Int))) G #[.int .i64 (p : Int), .int .i64 (c : Int)] 119) := HB5.out.setO _ _ hGC
      have B7 : Hid (Blk ((W5.setCell ⟨C, p, none⟩ (.int .i64 (c : Int))).setCell ⟨E, p, none⟩ (.bool true)).drew G #[.int .i64 (p : Int), .int .i64 (c : Int)] 119) := (B6.out.setO _ _ hGE).drew
      have HS7 : HeldL G V E q p c (W5.setCell ⟨C, p, none⟩ (.int .i64 (c : Int))).drew := ⟨B6.out.cell 0 rfl, B6.out.cell 1 rfl, T6.out.dvr.cell 0 rfl⟩
      have fC := HT5.out.cst.fz p
      have yC := num_cell HT5.out.cst (j := p) (by rw [hDn.out.2.1]; exact hpq)
      have fE := HT5.out.don.fz p
      have yE := bool_cell T6.out.don (j := p) (by rw [hDn.out.1.1]; exact hpq)
      refine region_anyL (HeldL G V E q p c) 11 (by kernel_rfl) ?_
      refine anyL_tk (i := 0) (v := ?v0_1) aZ0 (by kernel_rfl) ?y0_1 HS6 ?r0_1
      case y0_1 => intro wx hx; obtain ⟨h1, h2, h3⟩ := hx; go_simp; try (with_reducible rfl)
      simp only [Act.put, List.setIfInBounds_toArray, List.set_cons_zero, List.set_cons_succ]
      refine anyL_tk (i := 1) (v := ?v1_2) aZ1 (by kernel_rfl) ?y1_2 HS6 ?r1_2
      case y1_2 => intro wx hx; obtain ⟨h1, h2, h3⟩ := hx; go_simp; try (with_reducible rfl)
      simp only [Act.put, List.setIfInBounds_toArray, List.set_cons_zero, List.set_cons_succ]
      refine anyL_tk (i := 2) (v := ?v2_3) aZ2 (by kernel_rfl) ?y2_3 HS6 ?r2_3
      case y2_3 => intro wx hx; obtain ⟨h1, h2, h3⟩ := hx; go_simp; try (with_reducible rfl)
      simp only [Act.put, List.setIfInBounds_toArray, List.set_cons_zero, List.set_cons_succ]
      refine anyL_tk (i := 3) (v := ?v3_4) aZ3 (by kernel_rfl) ?y3_4 HS6 ?r3_4
      case y3_4 => intro wx hx; obtain ⟨h1, h2, h3⟩ := hx; go_simp; try (with_reducible rfl)
      simp only [Act.put, List.setIfInBounds_toArray, List.set_cons_zero, List.set_cons_succ]
      refine anyL_tk (i := 4) (v := ?v4_5) aZ4 (by kernel_rfl) ?y4_5 HS6 ?r4_5
      case y4_5 => intro wx hx; obtain ⟨h1, h2, h3⟩ := hx; go_simp; try (with_reducible rfl)
      simp only [Act.put, List.setIfInBounds_toArray, List.set_cons_zero, List.set_cons_succ]
      refine anyL_tk (i := 5) (v := ?v5_6) aZ5 (by kernel_rfl) ?y5_6 HS6 ?r5_6
      case y5_6 => intro wx hx; obtain ⟨h1, h2, h3⟩ := hx; go_simp; try (with_reducible rfl)
      simp only [Act.put, List.setIfInBounds_toArray, List.set_cons_zero, List.set_cons_succ]
      refine anyL_tk (i := 6) (v := ?v6_7) aZ6 (by kernel_rfl) ?y6_7 HS6 ?r6_7
      case y6_7 => intro wx hx; obtain ⟨h1, h2, h3⟩ := hx; go_simp; try (with_reducible rfl)
      simp only [Act.put, List.setIfInBounds_toArray, List.set_cons_zero, List.set_cons_succ]
      refine anyL_tk (i := 7) (v := ?v7_8) aZ7 (by kernel_rfl) ?y7_8 HS6 ?r7_8
      case y7_8 => intro wx hx; obtain ⟨h1, h2, h3⟩ := hx; go_simp; try (with_reducible rfl)
      simp only [Act.put, List.setIfInBounds_toArray, List.set_cons_zero, List.set_cons_succ]
      refine anyL_tk (i := 8) (v := ?v8_9) aZ8 (by kernel_rfl) ?y8_9 HS6 ?r8_9
      case y8_9 => intro wx hx; obtain ⟨h1, h2, h3⟩ := hx; go_simp; try (with_reducible rfl)
      simp only [Act.put, List.setIfInBounds_toArray, List.set_cons_zero, List.set_cons_succ]
      refine anyL_one (i := 9) aZ9 (by kernel_rfl) rfl (fun K hK => ?_)
      go_simp
      refine hK _ _ (.inr HS7) ?_
      try simp only [Act.put, List.setIfInBounds_toArray, List.set_cons_zero, List.set_cons_succ]
      refine anyL_tk (i := 10) (v := ?v10_10) aZ10 (by kernel_rfl) ?y10_10 HS7 ?r10_10
      case y10_10 => intro wx hx; obtain ⟨h1, h2, h3⟩ := hx; go_simp; try (with_reducible rfl)
      simp only [Act.put, List.setIfInBounds_toArray, List.set_cons_zero, List.set_cons_succ]
      refine anyL_one (i := 11) aZ11 (by kernel_rfl) rfl (fun K hK => ?_)
      go_simp
      refine hK _ _ (.inl rfl) (anyL_done (by kernel_rfl) (NoPanic.normal ?_))
      try simp only [Act.put, List.setIfInBounds_toArray, List.set_cons_zero, List.set_cons_succ]
      clear HS6 HS7 fC yC fE yE
      generalize hW7 : ((W5.setCell ⟨C, p, none⟩ (.int .i64 (c : Int))).setCell ⟨E, p, none⟩ (.bool true)).drew = W7 at *
      clear hW7 T6 B6
      go_wp2
      obtain ⟨hcT, hRp⟩ := HRW.out p hpq
      have HS8 : HeldN G T p c (el rows p) W7.drew := ⟨B7.out.cell 0 rfl, B7.out.cell 1 rfl, (T7.out.below.cell (p := ⟨T, p, none⟩) (by assumption)).trans hcT⟩
      have HPP := hidP (put_any (D := updD D p c) w W7.drew C E V B q p c v5 (el rows p) hs5 _ _ T7.out.drew HS.out HNW.out (if_pos rfl) HPB.out HQ5.out.1 (by omega) (by omega) hRp hN hov2)
      refine region_anyL (HeldN G T p c (el rows p)) 1000 (by kernel_rfl) ?_
      refine anyL_tk (i := 0) (v := ?v0_11) aZ0 (by kernel_rfl) ?y0_11 HS8 ?r0_11
      case y0_11 => intro wx hx; obtain ⟨h1, h2, h3⟩ := hx; go_simp; try (with_reducible rfl)
      simp only [Act.put, List.setIfInBounds_toArray, List.set_cons_zero, List.set_cons_succ]
      refine anyL_tk (i := 1) (v := ?v1_12) aZ1 (by kernel_rfl) ?y1_12 HS8 ?r1_12
      case y1_12 => intro wx hx; obtain ⟨h1, h2, h3⟩ := hx; go_simp; try (with_reducible rfl)
      simp only [Act.put, List.setIfInBounds_toArray, List.set_cons_zero, List.set_cons_succ]
      refine anyL_tk (i := 2) (v := ?v2_13) aZ2 (by kernel_rfl) ?y2_13 HS8 ?r2_13
      case y2_13 => intro wx hx; obtain ⟨h1, h2, h3⟩ := hx; go_simp; try (with_reducible rfl)
      simp only [Act.put, List.setIfInBounds_toArray, List.set_cons_zero, List.set_cons_succ]
      refine anyL_tk (i := 3) (v := ?v3_14) aZ3 (by kernel_rfl) ?y3_14 HS8 ?r3_14
      case y3_14 => intro wx hx; obtain ⟨h1, h2, h3⟩ := hx; go_simp; try (with_reducible rfl)
      simp only [Act.put, List.setIfInBounds_toArray, List.set_cons_zero, List.set_cons_succ]
      refine anyL_tk (i := 4) (v := ?v4_15) aZ4 (by kernel_rfl) ?y4_15 HS8 ?r4_15
      case y4_15 => intro wx hx; obtain ⟨h1, h2, h3⟩ := hx; go_simp; try (with_reducible rfl)
      simp only [Act.put, List.setIfInBounds_toArray, List.set_cons_zero, List.set_cons_succ]
      refine anyL_tk (i := 5) (v := ?v5_16) aZ5 (by kernel_rfl) ?y5_16 HS8 ?r5_16
      case y5_16 => intro wx hx; obtain ⟨h1, h2, h3⟩ := hx; go_simp; try (with_reducible rfl)
      simp only [Act.put, List.setIfInBounds_toArray, List.set_cons_zero, List.set_cons_succ]
      refine anyL_tk (i := 6) (v := ?v6_17) aZ6 (by kernel_rfl) ?y6_17 HS8 ?r6_17
      case y6_17 => intro wx hx; obtain ⟨h1, h2, h3⟩ := hx; go_simp; try (with_reducible rfl)
      simp only [Act.put, List.setIfInBounds_toArray, List.set_cons_zero, List.set_cons_succ]
      refine anyL_tk (i := 7) (v := ?v7_18) aZ7 (by kernel_rfl) ?y7_18 HS8 ?r7_18
      case y7_18 => intro wx hx; obtain ⟨h1, h2, h3⟩ := hx; go_simp; try (with_reducible rfl)
      simp only [Act.put, List.setIfInBounds_toArray, List.set_cons_zero, List.set_cons_succ]
      refine anyL_one (i := 8) aZ8 (by kernel_rfl) rfl (fun K hK => ?_)
      go_simp
      refine HPP.out.mono ?_
      rintro e w8 ⟨rfl, v8, hs8, ht8, hd8, hh8, hl8, hu8⟩
      have B8 := hu8.blk B7.out.drew hGB HGR.out
      refine hK _ _ (.inr ⟨B8.cell 0 rfl, B8.cell 1 rfl, (ht8.below.cell (p := ⟨T, p, none⟩) (by assumption)).trans hcT⟩) (anyL_done (by kernel_rfl) (NoPanic.normal ?_))
      try simp only [Act.put, List.setIfInBounds_toArray, List.set_cons_zero, List.set_cons_succ]
      go_wp2
      have h30 := hI.out.2.2
      refine ⟨⟨updD D p c, hs8, v8, c, bs.set p true, cs.set p (c : Int), ⟨hd8, hh8, by omega⟩, ⟨HPB.out, HPC.out⟩, ht8⟩, ?_⟩
      rw [HMS.out, ht8.few, ht8.len]
      omega
     ·obtain ⟨d, hd⟩ := hDn.out.1.some hpq hf
      refine ⟨⟨D, hs5, v5, b, bs, cs, ⟨hI.out.1.old HQ5.out.2.1 hd, HQ5.out.1, by have := hI.out.2.2; omega⟩, hDn, HT5⟩, ?_⟩
      rw [HMS.out, HT5.out.few, HT5.out.len]
      omega
end Go.Proofs.Ytfpibdaedfilaaa.Dw
namespace Go.Proofs.Ytfpibdaedfilaaa.Wt
open Go.ChangeShapes Go.WideShapes Go.ChangeAt Go.RowKit
set_option linter.unusedVariables false
theorem low {w w' : World} {a : Addr} {v : Value} (h : w.cell? a = some v) (hb : Below w.heap.size w w') : w'.cell? a = some v := (hb.cell (World.block_lt_of_cell? _ _ h)).trans h
theorem lowA {w w' : World} {o : Obj} {a : Addr} {v : Value} (h : w.cell? a = some v) (hb : Below (w.alloc o).heap.size (w.alloc o) w') : w'.cell? a = some v := low (low h ((Below.refl _ _).alloc (Nat.le_refl _) o)) hb
theorem lowN {w w' : World} {c : Value} {t : TypeId} (hb : Below (w.alloc (.cells #[c] t)).heap.size (w.alloc (.cells #[c] t)) w') : w'.cell? ⟨w.heap.size, 0, none⟩ = some c := low ((Blk.made w #[c] t).cell 0 rfl) hb
end Go.Proofs.Ytfpibdaedfilaaa.Wt
namespace Go.Proofs.Ytfpibdaedfilaaa.Wt
open Go.ChangeShapes Go.WideShapes Go.ChangeAt Go.RowKit
open Go.Proofs.Ytfpibdaedfilaaa.Pl
set_option linter.unusedVariables false
theorem arcsOf_any (v : Value) (m : Mc) (w : World) (h : Mach w v m) (hok : okM m) (h60 : m.2.length ≤ 60) (q : Nat) (hq : arcN m.2 = q) :
  Calls Try.prog 50 #[v] w fun e w' => e = .returned (.int .i64 q) ∧ Below w.heap.size w w' := by
 subst hq
 obtain ⟨z, l⟩ := m
 obtain ⟨vs, rfl, hS⟩ := h
 obtain ⟨a, cap, rfl, hc⟩ := hS.get
 have hA := okM_arcs hok h60
 clear hS hok
 have HX : Hid (∀ k, arcN (l.take k) ≤ 60 * 4398046511104) := hA
 have HC : Hid (∀ j, j < l.length → ∃ b off va, a = some ⟨b, off, none⟩ ∧ b < w.heap.size ∧ w.cell? ⟨b, off + j * 2, none⟩ = some (.int .i64 (el l j).1) ∧ w.cell? ⟨b, off + j * 2 + 1, none⟩ = some va ∧ Arcs w va (el l j).2) := hc
 clear hA hc
 simp only at h60 ⊢
 generalize hn : l.length = n at *
 go_enter Try.func50, Try.ntmps50
 go_wp2
 go_loopw [3, 9] (fun s i wr => ∃ k : Nat, k ≤ n ∧ i = .int .i64 k ∧ s = .int .i64 (arcN (l.take k)) ∧ Below w.heap.size w wr) (fun _ i _ => n - (intOf i).toNat)
 case atStart => exact ⟨0, Nat.zero_le _, rfl, rfl, by go_grown⟩
 case round =>
  obtain ⟨k, hk, rfl, rfl, hb⟩ := hrel
  by_cases hlt : k < n
  ·obtain ⟨b, off, va, rfl, hbl, g0, g1, gA⟩ := HC.out k hlt
   obtain ⟨a2, cap2, rfl⟩ := gA.sl
   have g0 := (hb.cell (p := ⟨b, off + k * 2, none⟩) hbl).trans g0
   have g1 := (hb.cell (p := ⟨b, off + k * 2 + 1, none⟩) hbl).trans g1
   have h1 := HX.out k
   have h2 := HX.out (k + 1)
   have HE : Hid (arcN (l.take (k + 1)) = arcN (l.take k) + (el l k).2.length) := arcN_take (by omega)
   rw [HE.out] at h2
   clear gA
   generalize arcN (l.take k) = s at *
   generalize (el l k).2.length = q at *
   generalize (el l k).1 = f at *
   go_wp2
   go_roundw
   case rel => exact ⟨k + 1, by omega, by go_num, by rw [HE.out]; go_num, hb.alloc hb.size _⟩
   case measure => simp [intOf]; omega
  ·go_wp2
   go_ret
   have hke : k = n := by omega
   refine ⟨ret_intK ?_, hb⟩
   rw [hke, ← hn, List.take_length]
def AskS (g : Nat) (lb : Array Value) (p : St → Bool) (l : List St) (w : World) : Prop :=
 (∀ ar W, (callFunc g ar).run Try.prog W = .ok (.enter g ar) W) ∧
 ∀ j, j < l.length → ∀ (W : World) (va : Value), Below w.heap.size w W → Arcs W va (el l j).2 → Calls Try.prog g (#[.agg #[.int .i64 (el l j).1, va]] ++ lb) W fun e w' => e = .returned (.bool (p (el l j))) ∧ Below W.heap.size W w'
set_option maxRecDepth 100000 in
theorem everyState_any (v : Value) (m : Mc) (w : World) (h : Mach w v m) (g : Nat) (lb : Array Value) (p : St → Bool) (hg : AskS g lb p m.2 w) (hl : m.2.length ≤ 60) (r : Bool) (hr : m.2.all p = r) :
  Calls Try.prog 78 #[v, .func (.func g) #[] lb] w fun e w' => e = .returned (.bool r) ∧ Below w.heap.size w w' := by
 obtain ⟨z, l⟩ := m
 obtain ⟨vs, rfl, hS⟩ := h
 obtain ⟨a, cap, rfl, hc⟩ := hS.get
 obtain ⟨eg, hg⟩ := hg
 simp only at hg hl hr ⊢
 have HC : Hid (∀ j, j < l.length → ∃ b off va, a = some ⟨b, off, none⟩ ∧ b < w.heap.size ∧ w.cell? ⟨b, off + j * 2, none⟩ = some (.int .i64 (el l j).1) ∧ w.cell? ⟨b, off + j * 2 + 1, none⟩ = some va ∧ Arcs w va (el l j).2) := hc
 have HG : Hid (∀ j, j < l.length → ∀ (W : World) (va : Value), Below w.heap.size w W → Arcs W va (el l j).2 → Calls Try.prog g (#[.agg #[.int .i64 (el l j).1, va]] ++ lb) W fun e w' => e = .returned (.bool (p (el l j))) ∧ Below W.heap.size W w') := hg
 have HR : Hid (l.all p = r) := hr
 clear hS hc hg hr
 generalize hn : l.length = n at *
 have HN : Hid (l.length = n) := hn
 clear hn
 have hnot : ∀ (x : Bool) (w : World), (Op.unary .not (.bool x)).run Try.prog w = .ok (.bool (!x)) w := fun _ _ => rfl
 go_enter Try.func78, Try.ntmps78
 go_wp2
 go_loopw [10] (fun i wr => ∃ k : Nat, k ≤ n ∧ i = .int .i64 k ∧ Hid ((l.take k).all p = true) ∧ Below w.heap.size w wr) (fun i _ => n - (intOf i).toNat)
 case atStart => exact ⟨0, Nat.zero_le _, rfl, rfl, by go_grown⟩
 case round =>
  obtain ⟨k, hk, rfl, hok, hb⟩ := hrel
  by_cases hlt : k < n
  ·obtain ⟨b, off, va, rfl, hbl, g0, g1, gA⟩ := HC.out k hlt
   have g0 := (hb.cell (p := ⟨b, off + k * 2, none⟩) hbl).trans g0
   have g1 := (hb.cell (p := ⟨b, off + k * 2 + 1, none⟩) hbl).trans g1
   have GA := gA.later hb (Nat.le_refl _)
   have GA2 : Hid (Arcs (wr.alloc (.cells #[.int .i64 (el l k).1, va] 56)) va (el l k).2) := GA.later ((Below.refl _ _).alloc (Nat.le_refl _) _) (Nat.le_refl _)
   have HC1 := HG.out k hlt (wr.alloc (.cells #[.int .i64 (el l k).1, va] 56)) va (hb.alloc hb.size _) GA2.out
   have HB2 : Hid (Below w.heap.size w (wr.alloc (.cells #[.int .i64 (el l k).1, va] 56))) := hb.alloc hb.size _
   obtain ⟨a2, cap2, hva⟩ := GA.sl
   subst hva
   rcases bool_cases' (p (el l k)) with hp | hp
   ·have HO : Hid ((l.take (k + 1)).all p = true) := by show _ = _; rw [all_take_succ (by rw [HN.out]; exact hlt), hok.out, hp]; rfl
    rw [hp] at HC1
    have HCC : Hid (Calls Try.prog g (#[.agg #[.int .i64 (el l k).1, .slice a2 (el l k).2.length cap2]] ++ lb) (wr.alloc (.cells #[.int .i64 (el l k).1, .slice a2 (el l k).2.length cap2] 56)) fun e w' => e = .returned (.bool true) ∧ Below (wr.alloc (.cells #[.int .i64 (el l k).1, .slice a2 (el l k).2.length cap2] 56)).heap.size (wr.alloc (.cells #[.int .i64 (el l k).1, .slice a2 (el l k).2.length cap2] 56)) w') := HC1
    clear HC1 GA GA2 gA hp hok
    generalize (el l k).2.length = q at *
    generalize (el l k).1 = f at *
    go_wp2_with (go_at_fn g; refine HCC.out.mono ?_; rintro e w' ⟨rfl, hb'⟩; have HB3 : Hid (Below w.heap.size w w') := HB2.out.trans (hb'.mono HB2.out.size); clear hb')
    go_roundw
    case rel => exact ⟨k + 1, by omega, by go_num, HO, HB3.out⟩
    case measure => simp [intOf]; omega
   ·have HO : Hid (false = r) := by show _ = _; rw [← HR.out]; exact (all_false_el (by rw [HN.out]; exact hlt) hp).symm
    rw [hp] at HC1
    have HCC : Hid (Calls Try.prog g (#[.agg #[.int .i64 (el l k).1, .slice a2 (el l k).2.length cap2]] ++ lb) (wr.alloc (.cells #[.int .i64 (el l k).1, .slice a2 (el l k).2.length cap2] 56)) fun e w' => e = .returned (.bool false) ∧ Below (wr.alloc (.cells #[.int .i64 (el l k).1, .slice a2 (el l k).2.length cap2] 56)).heap.size (wr.alloc (.cells #[.int .i64 (el l k).1, .slice a2 (el l k).2.length cap2] 56)) w') := HC1
    clear HC1 GA GA2 gA hp hok
    generalize (el l k).2.length = q at *
    generalize (el l k).1 = f at *
    go_wp2_with (go_at_fn g; refine HCC.out.mono ?_; rintro e w' ⟨rfl, hb'⟩; have HB3 : Hid (Below w.heap.size w w') := HB2.out.trans (hb'.mono HB2.out.size); clear hb')
    go_ret
    exact ⟨ret_boolK HO.out, HB3.out⟩
  ·have hke : k = n := by omega
   have HO : Hid (true = r) := by show _ = _; rw [← HR.out]; have h := hok.out; rw [hke, ← HN.out, List.take_length] at h; exact h.symm
   have hnl : ¬ (k : Int) < (n : Int) := by omega
   clear hke hok hlt
   go_wp2
   go_ret
   exact ⟨ret_boolK HO.out, hb⟩
def AskA (g : Nat) (lb : Array Value) (p : Ar → Bool) (w : World) : Prop :=
 (∀ ar W, (callFunc g ar).run Try.prog W = .ok (.enter g ar) W) ∧
 ∀ (a : Ar) (W : World), Below w.heap.size w W → Calls Try.prog g (#[.agg #[.int .i64 a.1, .int .i64 a.2.1, .int .i64 a.2.2.1, .int .i64 a.2.2.2]] ++ lb) W fun e w' => e = .returned (.bool (p a)) ∧ Below W.heap.size W w'
theorem AskA.later {g : Nat} {lb : Array Value} {p : Ar → Bool} {w w' : World} (h : AskA g lb p w) (hb : Below w.heap.size w w') : AskA g lb p w' := ⟨h.1, fun a W hW => h.2 a W (hb.trans (hW.mono hb.size))⟩
set_option maxRecDepth 100000 in
set_option maxHeartbeats 1000000 in
theorem arcsAll_any (f : Int) (va : Value) (l : List Ar) (B : Nat) (w W : World) (g : Nat) (lb : Array Value) (p : Ar → Bool) (hg : AskA g lb p w) (hB : w.cell? ⟨B, 0, none⟩ = some (.func (.func g) #[] lb)) (hW : Below w.heap.size w W) (hA : Arcs W va l) (hl : l.length ≤ 4398046511104) (r : Bool) (hr : l.all p = r) :
  Calls Try.prog 89 #[.agg #[.int .i64 f, va], .pointer (some ⟨B, 0, none⟩)] W fun e w' => e = .returned (.bool r) ∧ Below W.heap.size W w' := by
 obtain ⟨a, cap, rfl, hc⟩ := hA.get
 obtain ⟨eg, hg⟩ := hg
 have HC : Hid (∀ j, j < l.length → ∃ b off, a = some ⟨b, off, none⟩ ∧ b < W.heap.size ∧ W.cell? ⟨b, off + j * 4, none⟩ = some (.int .i64 (el l j).1) ∧ W.cell? ⟨b, off + j * 4 + 1, none⟩ = some (.int .i64 (el l j).2.1) ∧ W.cell? ⟨b, off + j * 4 + 2, none⟩ = some (.int .i64 (el l j).2.2.1) ∧ W.cell? ⟨b, off + j * 4 + 3, none⟩ = some (.int .i64 (el l j).2.2.2)) := hc
 have HG : Hid (∀ (a : Ar) (V : World), Below w.heap.size w V → Calls Try.prog g (#[.agg #[.int .i64 a.1, .int .i64 a.2.1, .int .i64 a.2.2.1, .int .i64 a.2.2.2]] ++ lb) V fun e w' => e = .returned (.bool (p a)) ∧ Below V.heap.size V w') := hg
 have HR : Hid (l.all p = r) := hr
 have hBl := World.block_lt_of_cell? _ _ hB
 have hB1 : W.cell? ⟨B, 0, none⟩ = some (.func (.func g) #[] lb) := (hW.cell (p := ⟨B, 0, none⟩) hBl).trans hB
 have HW : Hid (Below w.heap.size w W) := hW
 have hBW : B < W.heap.size := World.block_lt_of_cell? _ _ hB1
 clear hA hc hg hr hW hB
 generalize hn : l.length = n at *
 have HN : Hid (l.length = n) := hn
 clear hn
 have hnot : ∀ (x : Bool) (w : World), (Op.unary .not (.bool x)).run Try.prog w = .ok (.bool (!x)) w := fun _ _ => rfl
 go_enter Try.func89, Try.ntmps89
 go_wp2
 go_loopw [9] (fun i wr => ∃ k : Nat, k ≤ n ∧ i = .int .i64 k ∧ Hid ((l.take k).all p = true) ∧ Below W.heap.size W wr) (fun i _ => n - (intOf i).toNat)
 case atStart => exact ⟨0, Nat.zero_le _, rfl, rfl, by go_grown⟩
 case round =>
  obtain ⟨k, hk, rfl, hok, hb⟩ := hrel
  by_cases hlt : k < n
  ·obtain ⟨b, off, rfl, hbl, g0, g1, g2, g3⟩ := HC.out k hlt
   have g0 := (hb.cell (p := ⟨b, off + k * 4, none⟩) hbl).trans g0
   have g1 := (hb.cell (p := ⟨b, off + k * 4 + 1, none⟩) hbl).trans g1
   have g2 := (hb.cell (p := ⟨b, off + k * 4 + 2, none⟩) hbl).trans g2
   have g3 := (hb.cell (p := ⟨b, off + k * 4 + 3, none⟩) hbl).trans g3
   have g4 := (hb.cell (p := ⟨B, 0, none⟩) hBW).trans hB1
   have hBr : B < wr.heap.size := Nat.lt_of_lt_of_le hBW hb.size
   have HB2 : Hid (Below W.heap.size W (wr.alloc (.cells #[.int .i64 (el l k).1, .int .i64 (el l k).2.1, .int .i64 (el l k).2.2.1, .int .i64 (el l k).2.2.2] 58))) := hb.alloc hb.size _
   have HC1 := HG.out (el l k) (wr.alloc (.cells #[.int .i64 (el l k).1, .int .i64 (el l k).2.1, .int .i64 (el l k).2.2.1, .int .i64 (el l k).2.2.2] 58)) (HW.out.trans (HB2.out.mono HW.out.size))
   rcases bool_cases' (p (el l k)) with hp | hp
   ·have HO : Hid ((l.take (k + 1)).all p = true) := by show _ = _; rw [all_take_succ (by rw [HN.out]; exact hlt), hok.out, hp]; rfl
    rw [hp] at HC1
    have HCC : Hid (Calls Try.prog g (#[.agg #[.int .i64 (el l k).1, .int .i64 (el l k).2.1, .int .i64 (el l k).2.2.1, .int .i64 (el l k).2.2.2]] ++ lb) (wr.alloc (.cells #[.int .i64 (el l k).1, .int .i64 (el l k).2.1, .int .i64 (el l k).2.2.1, .int .i64 (el l k).2.2.2] 58)) fun e w' => e = .returned (.bool true) ∧ Below (wr.alloc (.cells #[.int .i64 (el l k).1, .int .i64 (el l k).2.1, .int .i64 (el l k).2.2.1, .int .i64 (el l k).2.2.2] 58)).heap.size (wr.alloc (.cells #[.int .i64 (el l k).1, .int .i64 (el l k).2.1, .int .i64 (el l k).2.2.1, .int .i64 (el l k).2.2.2] 58)) w') := HC1
    clear HC1 hp hok
    generalize (el l k).1 = x0 at *
    generalize (el l k).2.1 = x1 at *
    generalize (el l k).2.2.1 = x2 at *
    generalize (el l k).2.2.2 = x3 at *
    go_wp2_with (go_at_fn g; refine HCC.out.mono ?_; rintro e w' ⟨rfl, hb'⟩; have HB3 : Hid (Below W.heap.size W w') := HB2.out.trans (hb'.mono HB2.out.size); clear hb')
    go_roundw
    case rel => exact ⟨k + 1, by omega, by go_num, HO, HB3.out⟩
    case measure => simp [intOf]; omega
   ·have HO : Hid (false = r) := by show _ = _; rw [← HR.out]; exact (all_false_el (by rw [HN.out]; exact hlt) hp).symm
    rw [hp] at HC1
    have HCC : Hid (Calls Try.prog g (#[.agg #[.int .i64 (el l k).1, .int .i64 (el l k).2.1, .int .i64 (el l k).2.2.1, .int .i64 (el l k).2.2.2]] ++ lb) (wr.alloc (.cells #[.int .i64 (el l k).1, .int .i64 (el l k).2.1, .int .i64 (el l k).2.2.1, .int .i64 (el l k).2.2.2] 58)) fun e w' => e = .returned (.bool false) ∧ Below (wr.alloc (.cells #[.int .i64 (el l k).1, .int .i64 (el l k).2.1, .int .i64 (el l k).2.2.1, .int .i64 (el l k).2.2.2] 58)).heap.size (wr.alloc (.cells #[.int .i64 (el l k).1, .int .i64 (el l k).2.1, .int .i64 (el l k).2.2.1, .int .i64 (el l k).2.2.2] 58)) w') := HC1
    clear HC1 hp hok
    generalize (el l k).1 = x0 at *
    generalize (el l k).2.1 = x1 at *
    generalize (el l k).2.2.1 = x2 at *
    generalize (el l k).2.2.2 = x3 at *
    go_wp2_with (go_at_fn g; refine HCC.out.mono ?_; rintro e w' ⟨rfl, hb'⟩; have HB3 : Hid (Below W.heap.size W w') := HB2.out.trans (hb'.mono HB2.out.size); clear hb')
    go_ret
    exact ⟨ret_boolK HO.out, HB3.out⟩
  ·have hke : k = n := by omega
   have HO : Hid (true = r) := by show _ = _; rw [← HR.out]; have h := hok.out; rw [hke, ← HN.out, List.take_length] at h; exact h.symm
   have hnl : ¬ (k : Int) < (n : Int) := by omega
   clear hke hok hlt
   go_wp2
   go_ret
   exact ⟨ret_boolK HO.out, hb⟩
theorem arcsAll_ask (B : Nat) (l : List St) (w : World) (g : Nat) (lb : Array Value) (p : Ar → Bool) (hg : AskA g lb p w) (hB : w.cell? ⟨B, 0, none⟩ = some (.func (.func g) #[] lb)) (hl : ∀ j, j < l.length → (el l j).2.length ≤ 4398046511104) :
  AskS 89 #[.pointer (some ⟨B, 0, none⟩)] (fun s => s.2.all p) l w :=
 ⟨enters_of Try.func89 (by kernel_rfl) rfl, fun j hj W va hW hA => arcsAll_any _ va _ B w W g lb p hg hB hW hA (hl j hj) _ rfl⟩
theorem everyArc_any (v : Value) (m : Mc) (w : World) (h : Mach w v m) (g : Nat) (lb : Array Value) (p : Ar → Bool) (hg : AskA g lb p w) (hok : okM m) (hl : m.2.length ≤ 60) (r : Bool) (hr : m.2.all (fun s => s.2.all p) = r) :
  Calls Try.prog 79 #[v, .func (.func g) #[] lb] w fun e w' => e = .returned (.bool r) ∧ Below w.heap.size w w' := by
 obtain ⟨z, l⟩ := m
 obtain ⟨vs, rfl, hS⟩ := h
 obtain ⟨a, cap, rfl⟩ := hS.sl
 have HM : Hid (Mach w (.agg #[.int .i64 z, .slice a l.length cap]) (z, l)) := ⟨_, rfl, hS⟩
 have HG : Hid (AskA g lb p w) := hg
 have HL : Hid (∀ j, j < l.length → (el l j).2.length ≤ 4398046511104) := fun j hj => by have := hok.2 j hj; simp only at this; omega
 have HR : Hid (l.all (fun s => s.2.all p) = r) := hr
 have H60 : Hid (l.length ≤ 60) := hl
 clear hg hS hok hr hl
 have hmf : ∀ (fn : Fn) (first cap : Array Value) (w : World), (Instr.makeFunc fn first cap).run Try.prog w = .ok (.func fn first cap) w := fun _ _ _ _ => rfl
 simp only
 generalize hn : l.length = n at *
 have HN : Hid (l.length = n) := hn
 clear hn
 have HB : Hid (Below w.heap.size w ((w.alloc (.cells #[.int .i64 z, .slice a n cap] 27)).alloc (.cells #[.func (.func g) #[] lb] 129))) := by show Below _ _ _; go_grown
 go_enter Try.func79, Try.ntmps79
 go_wp2_with (first | (go_at_call 78; (with_reducible refine (everyState_any _ (z, l) _ (HM.out.later HB.out (Nat.le_refl _)) _ _ _ (arcsAll_ask _ l _ g lb p (HG.out.later HB.out) (by go_cell) (by rw [HN.out]; exact HL.out)) (by show l.length ≤ 60; rw [HN.out]; exact H60.out) r HR.out).mono ?_); rintro e w' ⟨rfl, hb⟩))
 go_ret
 exact ⟨rfl, HB.out.trans (hb.mono HB.out.size)⟩
end Go.Proofs.Ytfpibdaedfilaaa.Wt
