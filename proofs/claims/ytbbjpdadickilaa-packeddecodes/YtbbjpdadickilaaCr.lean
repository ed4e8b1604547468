/- The reference: the sum of bytes, as a long division. -/
import Derived.Test.YtbbjpdadickilaaBz
import Derived.Test.YtbbjpdadickilaaRg
namespace Go.Proofs.Ytbbjpdadickilaa.Pl
def polyL : List Int := [1, 0, 0, 0, 1, 0, 0, 0, 0, 0, 0, 1, 0, 0, 0, 0, 1]
theorem polyL_el : ∀ k : Fin 17, el polyL k.1 = bi (polyB k.1) := by decide +kernel
theorem mulsub {n k : Nat} (h : k < n) : k / 8 < (n + 7) / 8 := by omega
end Go.Proofs.Ytbbjpdadickilaa.Pl
namespace Go.Proofs.Ytbbjpdadickilaa.Wt
open Go.ChangeShapes Go.WideShapes Go.ChangeAt Go.RowKit
open Go.Proofs.Ytbbjpdadickilaa.Pl
set_option linter.unusedVariables false
set_option linter.unusedSimpArgs false
def HeldD (g q pb k : Nat) (x y : Int) (w : World) : Prop := w.cell? ⟨g, q, none⟩ = some (.int .i64 x) ∧ w.cell? ⟨pb, k, none⟩ = some (.int .i64 y)
set_option maxRecDepth 100000 in
set_option maxHeartbeats 3200000 in
theorem remainder_any (v : Value) (l : List Int) (w : World) (h : Bys w v l) (hb : bytesB l) (hl : l.length ≤ 10000) :
    Calls Try.prog 23 #[v] w fun e w' => e = .returned (.int .i64 (crcN l)) ∧ Below w.heap.size w w' := by
  obtain ⟨a, cap, rfl, hc⟩ := h.get
  have HC : Hid (∀ j, j < l.length → ∃ b off, a = some ⟨b, off, none⟩ ∧ b < w.heap.size ∧ w.cell? ⟨b, off + j, none⟩ = some (.int .u8 (el l j))) := hc
  have HB : Hid (bytesB l) := hb
  have HRA : Hid (topN (regAt l (8 * l.length)) 16 = crcN l) := by show _ = _; rw [regAt_all hb, topN_all]; rfl
  have HMF : Hid (∀ j, 8 * l.length ≤ j → msgB l j = false) := fun j hj => by unfold msgB; rw [if_neg (by omega)]
  have HDE : Hid (∀ (v : BitVec 16) (k : Nat), k < 16 → dvB l v (8 * l.length) (8 * l.length + k) = v.getMsbD k) := fun v k hk => dvB_end l v hk
  have HMB : Hid (∀ k, k < 8 * l.length → msgB l k = (el l (k / 8)).toNat.testBit (7 - k % 8)) := fun k hk => by unfold msgB; rw [if_pos hk]
  clear hc hb h
  generalize hm : l.length = m at *
  have HM : Hid (l.length = m) := hm
  clear hm
  have e8 : IntKind.i64.wrap (8 * (m : Int)) = ((8 * m : Nat) : Int) := by rw [wrapI (by omega) (by omega)]; omega
  have e16 : IntKind.i64.wrap (((8 * m : Nat) : Int) + 16) = ((8 * m + 16 : Nat) : Int) := by rw [wrapI (by omega) (by omega)]; omega
  generalize hn : 8 * m = n at *
  have hmk : ∀ W : World, (Instr.makeSlice 65 (.int .i64 ((n : Int) + 16)) (.int .i64 ((n : Int) + 16))).run Try.prog W = .ok (.slice (some ⟨W.heap.size, 0, none⟩) (n + 16) (n + 16)) (W.alloc (.cells ((List.replicate (n + 16) (0 : Int)).map (Value.int .i64)).toArray 3)) := fun W => run_numsL (n + 16) (by omega) W
  go_enter Try.func23, Try.ntmps23
  go_wp2
  go_loopw [5] (fun i wr => ∃ (c : Nat) (ws : List Int), c ≤ n ∧ i = .int .i64 c ∧ Hid (ws.length = n + 16 ∧ ∀ j, j < n + 16 → el ws j = if j < c then bi (msgB l j) else 0) ∧ Hid (Blk wr w.heap.size (ws.map (Value.int .i64)).toArray 3) ∧ Hid (Below w.heap.size w wr)) (fun i _ => n - (intOf i).toNat)
  case atStart => exact ⟨0, List.replicate (n + 16) 0, Nat.zero_le _, rfl, ⟨by simp, fun j hj => by rw [if_neg (by omega)]; simp [el, hj]⟩, by (show Blk _ _ _ _); rw [show (List.map (Value.int .i64) (List.replicate (n + 16) 0)).toArray = Array.replicate (n + 16) (.int .i64 0) from by simp]; exact Blk.made w _ _, (Below.refl _ _).alloc (Nat.le_refl _) _⟩
  case round =>
    obtain ⟨c, ws, hcn, rfl, hws, hbx, hb⟩ := hrel
    by_cases hlt : c < n
    · obtain ⟨b, off, rfl, hbl, g⟩ := HC.out (c / 8) (by omega)
      have g := (hb.out.cell (p := ⟨b, off + c / 8, none⟩) hbl).trans g
      have hx := HB.out (el l (c / 8)) (el_mem (by rw [HM.out]; omega))
      have HBT : Hid ((el l (c / 8) / 2 ^ (7 - c % 8)).tmod 2 = bi (msgB l c)) := by show _ = _; rw [HMB.out c (by omega), Int.tmod_eq_emod_of_nonneg (Int.ediv_nonneg hx.1 (Int.pow_nonneg (by omega)))]; exact bit_num hx.1 _
      have hd : Int.tdiv (c : Int) 8 = ((c / 8 : Nat) : Int) := by rw [Int.tdiv_eq_ediv_of_nonneg (by omega)]; omega
      have hm : Int.tmod (c : Int) 8 = ((c % 8 : Nat) : Int) := by rw [Int.tmod_eq_emod_of_nonneg (by omega)]; omega
      have hlt' : (c : Int) < (n : Int) := by omega
      have k0 : (0 : Int) ≤ ((c / 8 : Nat) : Int) := by omega
      have k1 : ((c / 8 : Nat) : Int) < (m : Int) := by omega
      have k2 : (0 : Int) ≤ (c : Int) := by omega
      have k3 : (c : Int) < (n : Int) + 16 := by omega
      have dc := num_cell hbx.out (j := c) (by rw [hws.out.1]; omega)
      have df := hbx.out.fz c
      go_wp2
      go_roundw
      case rel => exact ⟨c + 1, ws.set c (bi (msgB l c)), by omega, by go_num, ⟨by simp [hws.out.1], fun j hj => by
        rw [el_setN (by rw [hws.out.1]; omega)]
        by_cases hjc : j = c
        · subst hjc; rw [if_pos rfl, if_pos (by omega)]
        · rw [if_neg hjc, hws.out.2 j hj]
          by_cases h9 : j < c
          · rw [if_pos h9, if_pos (by omega)]
          · rw [if_neg h9, if_neg (by omega)]⟩, by rw [← set_num, ← HBT.out]; exact hbx.out.set c _, hb.out.setCell (p := ⟨w.heap.size, c, none⟩) (Nat.le_refl _) _⟩
      case measure => simp [intOf]; omega
    · have hnl : ¬ (c : Int) < (n : Int) := by omega
      have HW1 : Hid (ws.length = n + 16 ∧ ∀ j, j < n + 16 → el ws j = bi (msgB l j)) := ⟨hws.out.1, fun j hj => by
        rw [hws.out.2 j hj]
        by_cases h9 : j < c
        · rw [if_pos h9]
        · rw [if_neg h9, HMF.out j (by omega)]; rfl⟩
      go_wp2
      clear hws hnl
      go_loopw [6] (fun i wr => ∃ (c : Nat) (ws : List Int), c ≤ 16 ∧ i = .int .i64 c ∧ Hid (ws.length = n + 16 ∧ ∀ j, j < n + 16 → el ws j = bi (msgB l j ^^ decide (j < c))) ∧ Hid (Blk wr w.heap.size (ws.map (Value.int .i64)).toArray 3) ∧ Hid (Below w.heap.size w wr)) (fun i _ => 16 - (intOf i).toNat)
      case atStart => exact ⟨0, ws, by omega, rfl, ⟨HW1.out.1, fun j hj => by rw [HW1.out.2 j hj, decide_eq_false (by omega), Bool.xor_false]⟩, hbx, hb⟩
      case round =>
        clear HW1 hbx hb
        obtain ⟨c, ws, hc16, rfl, hws, hbx, hb⟩ := hrel
        by_cases hlt : c < 16
        · have hlt' : (c : Int) < 16 := by omega
          have k2 : (0 : Int) ≤ (c : Int) := by omega
          have k3 : (c : Int) < (n : Int) + 16 := by omega
          have dc := num_cell hbx.out (j := c) (by rw [hws.out.1]; omega)
          have df := hbx.out.fz c
          rw [hws.out.2 c (by omega), decide_eq_false (by omega), Bool.xor_false] at dc
          have hb01 := bi_01 (msgB l c)
          have HBN : Hid (1 - bi (msgB l c) = bi (msgB l c ^^ true)) := by show _ = _; rw [bi_not, Bool.xor_true]
          generalize bi (msgB l c) = x at *
          go_wp2
          go_roundw
          case rel => exact ⟨c + 1, ws.set c (1 - x), by omega, by go_num, ⟨by simp [hws.out.1], fun j hj => by
            rw [el_setN (by rw [hws.out.1]; omega)]
            by_cases hjc : j = c
            · subst hjc; rw [if_pos rfl, decide_eq_true (by omega)]; exact HBN.out
            · rw [if_neg hjc, hws.out.2 j hj, show decide (j < c) = decide (j < c + 1) from by
                by_cases h9 : j < c
                · rw [decide_eq_true h9, decide_eq_true (by omega)]
                · rw [decide_eq_false h9, decide_eq_false (by omega)]]⟩, by rw [← set_num]; exact hbx.out.set c _, hb.out.setCell (p := ⟨w.heap.size, c, none⟩) (Nat.le_refl _) _⟩
          case measure => simp [intOf]; omega
        · have hnl : ¬ (c : Int) < 16 := by omega
          obtain rfl : c = 16 := by omega
          have HW2 : Hid (ws.length = n + 16 ∧ ∀ j, j < n + 16 → el ws j = bi (dvB l (regAt l 0) 0 j)) := ⟨hws.out.1, fun j hj => by rw [hws.out.2 j hj, show regAt l 0 = 0xffff#16 from rfl, dvB_start]⟩
          obtain ⟨w2, rfl⟩ : ∃ w2, w2 = wr := ⟨_, rfl⟩
          have hbl1 := hbx.out.lt
          have hP := Blk.made w2 (polyL.map (Value.int .i64)).toArray 3
          have HPB : Hid (Blk (w2.alloc (.cells (polyL.map (Value.int .i64)).toArray 3)) w2.heap.size (polyL.map (Value.int .i64)).toArray 3) := hP
          clear hP hws
          go_wp2
          go_loopw [8] (fun i w3 => ∃ (c : Nat) (ws : List Int), c ≤ n ∧ i = .int .i64 c ∧ Hid (ws.length = n + 16 ∧ ∀ j, j < n + 16 → c ≤ j → el ws j = bi (dvB l (regAt l c) c j)) ∧ Hid (Blk w3 w.heap.size (ws.map (Value.int .i64)).toArray 3) ∧ Hid (Blk w3 w2.heap.size (polyL.map (Value.int .i64)).toArray 3) ∧ Hid (Below w.heap.size w w3)) (fun i _ => n - (intOf i).toNat)
          case atStart => exact ⟨0, ws, Nat.zero_le _, rfl, ⟨HW2.out.1, fun j hj _ => HW2.out.2 j hj⟩, hbx.out.alloc _, HPB, hb.out.alloc hb.out.size _⟩
          case round =>
            clear HW2 hb hbx HPB
            obtain ⟨c, ws, hcn, rfl, hws, hbx, hpx, hb⟩ := hrel
            by_cases hlt : c < n
            · have hlt' : (c : Int) < (n : Int) := by omega
              have k2 : (0 : Int) ≤ (c : Int) := by omega
              have k3 : (c : Int) < (n : Int) + 16 := by omega
              have dc := num_cell hbx.out (j := c) (by rw [hws.out.1]; omega)
              rw [hws.out.2 c (by omega) (Nat.le_refl _)] at dc
              have HRS : Hid (regAt l (c + 1) = crcIn (regAt l c) (msgB l c)) := rfl
              obtain ⟨q, hq⟩ : ∃ q, dvB l (regAt l c) c c = q := ⟨_, rfl⟩
              rw [hq] at dc
              cases q with
              | true =>
                have HQ : Hid (dvB l (regAt l c) c c = true) := hq
                have e1 : (bi true == 1) = true := rfl
                clear hq
                generalize bi true = x at *
                go_wp2
                go_loopw [9] (fun i w4 => ∃ (d : Nat) (ws : List Int), d ≤ 17 ∧ i = .int .i64 d ∧ Hid (ws.length = n + 16 ∧ ∀ j, j < n + 16 → c ≤ j → el ws j = bi (dvB l (regAt l c) c j ^^ (decide (j < c + d) && polyB (j - c)))) ∧ Hid (Blk w4 w.heap.size (ws.map (Value.int .i64)).toArray 3) ∧ Hid (Blk w4 w2.heap.size (polyL.map (Value.int .i64)).toArray 3) ∧ Hid (Below w.heap.size w w4)) (fun i _ => 17 - (intOf i).toNat)
                case atStart => exact ⟨0, ws, by omega, rfl, ⟨hws.out.1, fun j hj hcj => by rw [hws.out.2 j hj hcj, decide_eq_false (by omega), Bool.false_and, Bool.xor_false]⟩, hbx, hpx, hb⟩
                case round =>
                  clear hws hbx hpx hb dc
                  obtain ⟨d, ws, hd17, rfl, hws, hbx, hpx, hb⟩ := hrel
                  by_cases hdlt : d < 17
                  · have hdlt' : (d : Int) < 17 := by omega
                    have k4 : (0 : Int) ≤ (c : Int) + (d : Int) := by omega
                    have k5 : (c : Int) + (d : Int) < (n : Int) + 16 := by omega
                    have kt : ((c : Int) + (d : Int)).toNat = c + d := by omega
                    have w1 : IntKind.i64.wrap ((c : Int) + (d : Int)) = (c : Int) + (d : Int) := wrapI (by omega) (by omega)
                    have k6 : (0 : Int) ≤ (d : Int) := by omega
                    have g1 := num_cell hbx.out (j := c + d) (by rw [hws.out.1]; omega)
                    have g2 := num_cell hpx.out (j := d) hdlt
                    have df := hbx.out.fz (c + d)
                    rw [hws.out.2 (c + d) (by omega) (by omega), decide_eq_false (by omega), Bool.false_and, Bool.xor_false] at g1
                    rw [polyL_el ⟨d, hdlt⟩] at g2
                    have b1 := bi_01 (dvB l (regAt l c) c (c + d))
                    have b2 := bi_01 (polyB d)
                    have HXY : Hid ((bi (dvB l (regAt l c) c (c + d)) + bi (polyB d)).tmod 2 = bi (dvB l (regAt l c) c (c + d) ^^ polyB d)) := by
                      show _ = _
                      rw [Int.tmod_eq_emod_of_nonneg (by omega), bi_xor]
                    generalize hz : bi (dvB l (regAt l c) c (c + d) ^^ polyB d) = z at *
                    have HZ : Hid (bi (dvB l (regAt l c) c (c + d) ^^ polyB d) = z) := hz
                    clear hz
                    generalize bi (dvB l (regAt l c) c (c + d)) = x1 at *
                    generalize bi (polyB d) = x2 at *
                    have hxy := HXY.out
                    have w3 : IntKind.i64.wrap (x1 + x2) = x1 + x2 := wrapI (by omega) (by omega)
                    have HSD : HeldD w.heap.size (c + d) w2.heap.size d x1 x2 wr.drew := ⟨g1, g2⟩
                    go_wp2
                    refine region_anyL (HeldD w.heap.size (c + d) w2.heap.size d x1 x2) 17 (by kernel_rfl) ?_
                    refine anyL_take (i := 0) (v := ?v0_17) at0 (by kernel_rfl) (by kernel_rfl) (by kernel_rfl) (by kernel_rfl) (fun _ _ _ h => h) rfl ?y0_17 HSD ?r0_17
                    case y0_17 => intro wx hx; obtain ⟨h1, h2⟩ := hx; go_simp; try (with_reducible rfl)
                    simp only [Act.put, List.setIfInBounds_toArray, List.set_cons_zero, List.set_cons_succ]
                    refine anyL_take (i := 1) (v := ?v1_18) (atS at0) (by kernel_rfl) (by kernel_rfl) (by kernel_rfl) (by kernel_rfl) (fun _ _ _ h => h) rfl ?y1_18 HSD ?r1_18
                    case y1_18 => intro wx hx; obtain ⟨h1, h2⟩ := hx; go_simp; try (with_reducible rfl)
                    simp only [Act.put, List.setIfInBounds_toArray, List.set_cons_zero, List.set_cons_succ]
                    refine anyL_take (i := 2) (v := ?v2_19) (atS (atS at0)) (by kernel_rfl) (by kernel_rfl) (by kernel_rfl) (by kernel_rfl) (fun _ _ _ h => h) rfl ?y2_19 HSD ?r2_19
                    case y2_19 => intro wx hx; obtain ⟨h1, h2⟩ := hx; go_simp; try (with_reducible rfl)
                    simp only [Act.put, List.setIfInBounds_toArray, List.set_cons_zero, List.set_cons_succ]
                    refine anyL_take (i := 3) (v := ?v3_20) (atS (atS (atS at0))) (by kernel_rfl) (by kernel_rfl) (by kernel_rfl) (by kernel_rfl) (fun _ _ _ h => h) rfl ?y3_20 HSD ?r3_20
                    case y3_20 => intro wx hx; obtain ⟨h1, h2⟩ := hx; go_simp; try (with_reducible rfl)
                    simp only [Act.put, List.setIfInBounds_toArray, List.set_cons_zero, List.set_cons_succ]
                    refine anyL_take (i := 4) (v := ?v4_21) (atS (atS (atS (atS at0)))) (by kernel_rfl) (by kernel_rfl) (by kernel_rfl) (by kernel_rfl) (fun _ _ _ h => h) rfl ?y4_21 HSD ?r4_21
                    case y4_21 => intro wx hx; obtain ⟨h1, h2⟩ := hx; go_simp; try (with_reducible rfl)
                    simp only [Act.put, List.setIfInBounds_toArray, List.set_cons_zero, List.set_cons_succ]
                    refine anyL_take (i := 5) (v := ?v5_22) (atS (atS (atS (atS (atS at0))))) (by kernel_rfl) (by kernel_rfl) (by kernel_rfl) (by kernel_rfl) (fun _ _ _ h => h) rfl ?y5_22 HSD ?r5_22
                    case y5_22 => intro wx hx; obtain ⟨h1, h2⟩ := hx; go_simp; try (with_reducible rfl)
                    simp only [Act.put, List.setIfInBounds_toArray, List.set_cons_zero, List.set_cons_succ]
                    refine anyL_take (i := 6) (v := ?v6_23) (atS (atS (atS (atS (atS (atS at0)))))) (by kernel_rfl) (by kernel_rfl) (by kernel_rfl) (by kernel_rfl) (fun _ _ _ h => h) rfl ?y6_23 HSD ?r6_23
                    case y6_23 => intro wx hx; obtain ⟨h1, h2⟩ := hx; go_simp; try (with_reducible rfl)
                    simp only [Act.put, List.setIfInBounds_toArray, List.set_cons_zero, List.set_cons_succ]
                    refine anyL_take (i := 7) (v := ?v7_24) (atS (atS (atS (atS (atS (atS (atS at0))))))) (by kernel_rfl) (by kernel_rfl) (by kernel_rfl) (by kernel_rfl) (fun _ _ _ h => h) rfl ?y7_24 HSD ?r7_24
                    case y7_24 => intro wx hx; obtain ⟨h1, h2⟩ := hx; go_simp; try (with_reducible rfl)
                    simp only [Act.put, List.setIfInBounds_toArray, List.set_cons_zero, List.set_cons_succ]
                    refine anyL_take (i := 8) (v := ?v8_25) (atS (atS (atS (atS (atS (atS (atS (atS at0)))))))) (by kernel_rfl) (by kernel_rfl) (by kernel_rfl) (by kernel_rfl) (fun _ _ _ h => h) rfl ?y8_25 HSD ?r8_25
                    case y8_25 => intro wx hx; obtain ⟨h1, h2⟩ := hx; go_simp; try (with_reducible rfl)
                    simp only [Act.put, List.setIfInBounds_toArray, List.set_cons_zero, List.set_cons_succ]
                    refine anyL_take (i := 9) (v := ?v9_26) (atS (atS (atS (atS (atS (atS (atS (atS (atS at0))))))))) (by kernel_rfl) (by kernel_rfl) (by kernel_rfl) (by kernel_rfl) (fun _ _ _ h => h) rfl ?y9_26 HSD ?r9_26
                    case y9_26 => intro wx hx; obtain ⟨h1, h2⟩ := hx; go_simp; try (with_reducible rfl)
                    simp only [Act.put, List.setIfInBounds_toArray, List.set_cons_zero, List.set_cons_succ]
                    refine anyL_take (i := 10) (v := ?v10_27) (atS (atS (atS (atS (atS (atS (atS (atS (atS (atS at0)))))))))) (by kernel_rfl) (by kernel_rfl) (by kernel_rfl) (by kernel_rfl) (fun _ _ _ h => h) rfl ?y10_27 HSD ?r10_27
                    case y10_27 => intro wx hx; obtain ⟨h1, h2⟩ := hx; go_simp; try (with_reducible rfl)
                    simp only [Act.put, List.setIfInBounds_toArray, List.set_cons_zero, List.set_cons_succ]
                    refine anyL_take (i := 11) (v := ?v11_28) (atS (atS (atS (atS (atS (atS (atS (atS (atS (atS (atS at0))))))))))) (by kernel_rfl) (by kernel_rfl) (by kernel_rfl) (by kernel_rfl) (fun _ _ _ h => h) rfl ?y11_28 HSD ?r11_28
                    case y11_28 => intro wx hx; obtain ⟨h1, h2⟩ := hx; go_simp; try (with_reducible rfl)
                    simp only [Act.put, List.setIfInBounds_toArray, List.set_cons_zero, List.set_cons_succ]
                    refine anyL_take (i := 12) (v := ?v12_29) (atS (atS (atS (atS (atS (atS (atS (atS (atS (atS (atS (atS at0)))))))))))) (by kernel_rfl) (by kernel_rfl) (by kernel_rfl) (by kernel_rfl) (fun _ _ _ h => h) rfl ?y12_29 HSD ?r12_29
                    case y12_29 => intro wx hx; obtain ⟨h1, h2⟩ := hx; go_simp; try (with_reducible rfl)
                    simp only [Act.put, List.setIfInBounds_toArray, List.set_cons_zero, List.set_cons_succ]
                    refine anyL_take (i := 13) (v := ?v13_30) (atS (atS (atS (atS (atS (atS (atS (atS (atS (atS (atS (atS (atS at0))))))))))))) (by kernel_rfl) (by kernel_rfl) (by kernel_rfl) (by kernel_rfl) (fun _ _ _ h => h) rfl ?y13_30 HSD ?r13_30
                    case y13_30 => intro wx hx; obtain ⟨h1, h2⟩ := hx; go_simp; try (with_reducible rfl)
                    simp only [Act.put, List.setIfInBounds_toArray, List.set_cons_zero, List.set_cons_succ]
                    refine anyL_take (i := 14) (v := ?v14_31) (atS (atS (atS (atS (atS (atS (atS (atS (atS (atS (atS (atS (atS (atS at0)))))))))))))) (by kernel_rfl) (by kernel_rfl) (by kernel_rfl) (by kernel_rfl) (fun _ _ _ h => h) rfl ?y14_31 HSD ?r14_31
                    case y14_31 => intro wx hx; obtain ⟨h1, h2⟩ := hx; go_simp; try (with_reducible rfl)
                    simp only [Act.put, List.setIfInBounds_toArray, List.set_cons_zero, List.set_cons_succ]
                    refine anyL_take (i := 15) (v := ?v15_32) (atS (atS (atS (atS (atS (atS (atS (atS (atS (atS (atS (atS (atS (atS (atS at0))))))))))))))) (by kernel_rfl) (by kernel_rfl) (by kernel_rfl) (by kernel_rfl) (fun _ _ _ h => h) rfl ?y15_32 HSD ?r15_32
                    case y15_32 => intro wx hx; obtain ⟨h1, h2⟩ := hx; go_simp; try (with_reducible rfl)
                    simp only [Act.put, List.setIfInBounds_toArray, List.set_cons_zero, List.set_cons_succ]
                    refine anyL_one (i := 16) (atS (atS (atS (atS (atS (atS (atS (atS (atS (atS (atS (atS (atS (atS (atS (atS at0)))))))))))))))) (by kernel_rfl) rfl (fun K hK => ?_)
                    go_simp
                    refine hK _ _ (.inr HSD) ?_
                    try simp only [Act.put, List.setIfInBounds_toArray, List.set_cons_zero, List.set_cons_succ]
                    refine anyL_one (i := 17) (atS (atS (atS (atS (atS (atS (atS (atS (atS (atS (atS (atS (atS (atS (atS (atS (atS at0))))))))))))))))) (by kernel_rfl) rfl (fun K hK => ?_)
                    go_simp
                    refine hK _ _ (.inl rfl) (anyL_done (by kernel_rfl) (NoPanic.normal ?_))
                    try simp only [Act.put, List.setIfInBounds_toArray, List.set_cons_zero, List.set_cons_succ]
                    clear HSD
                    go_wp2
                    go_roundw
                    case rel => exact ⟨d + 1, ws.set (c + d) z, by omega, by go_num, ⟨by simp [hws.out.1], fun j hj hcj => by
                      rw [el_setN (by rw [hws.out.1]; omega)]
                      by_cases hjc : j = c + d
                      · subst hjc
                        rw [if_pos rfl, decide_eq_true (by omega), Bool.true_and, show c + d - c = d from by omega]
                        exact HZ.out.symm
                      · rw [if_neg hjc, hws.out.2 j hj hcj, show decide (j < c + d) = decide (j < c + (d + 1)) from by
                          by_cases h9 : j < c + d
                          · rw [decide_eq_true h9, decide_eq_true (by omega)]
                          · rw [decide_eq_false h9, decide_eq_false (by omega)]]⟩, by rw [← set_num]; exact hbx.out.drew.set (c + d) _, hpx.out.drew.setO _ _ (by show w2.heap.size ≠ w.heap.size; omega), hb.out.drew.setCell (p := ⟨w.heap.size, c + d, none⟩) (Nat.le_refl _) _⟩
                    case measure => simp [intOf]; omega
                  · have hnl : ¬ (d : Int) < 17 := by omega
                    obtain rfl : d = 17 := by omega
                    go_wp2
                    go_roundw
                    case rel => exact ⟨c + 1, ws, by omega, by go_num, ⟨hws.out.1, fun j hj hcj => by rw [hws.out.2 j hj (by omega), HRS.out, dvB_yes HQ.out (by omega)]⟩, hbx, hpx, hb⟩
                    case measure => simp [intOf]; omega
              | false =>
                have HQ : Hid (dvB l (regAt l c) c c = false) := hq
                have e1 : (bi false == 1) = false := rfl
                clear hq
                generalize bi false = x at *
                go_wp2
                go_roundw
                case rel => exact ⟨c + 1, ws, by omega, by go_num, ⟨hws.out.1, fun j hj hcj => by rw [hws.out.2 j hj (by omega), HRS.out, dvB_no HQ.out (by omega)]⟩, hbx, hpx, hb⟩
                case measure => simp [intOf]; omega
            · have hnl : ¬ (c : Int) < (n : Int) := by omega
              obtain rfl : c = n := by omega
              have HW3 : Hid (ws.length = c + 16 ∧ ∀ k, k < 16 → el ws (c + k) = bi ((regAt l c).getMsbD k)) := ⟨hws.out.1, fun k hk => by rw [hws.out.2 (c + k) (by omega) (by omega), HDE.out _ k hk]⟩
              have HTS : Hid (∀ t, t < 16 → topN (regAt l c) (t + 1) = 2 * topN (regAt l c) t + bi ((regAt l c).getMsbD t)) := fun t ht => topN_succ _ ht
              have HTR : Hid (∀ t, t ≤ 16 → 0 ≤ topN (regAt l c) t ∧ topN (regAt l c) t < 65536) := fun t ht => topN_range _ t ht
              have HT0 : Hid (topN (regAt l c) 0 = 0) := topN_zero _
              obtain ⟨w3, rfl⟩ : ∃ w3, w3 = wr := ⟨_, rfl⟩
              generalize regAt l c = rg at *
              go_wp2
              go_loop [10, 11] (fun o i => ∃ t : Nat, t ≤ 16 ∧ o = .int .i64 (topN rg t) ∧ i = .int .i64 ((c : Int) + (t : Int))) (fun _ i => c + 16 - (intOf i).toNat)
              case atStart => exact ⟨0, by omega, by rw [HT0.out], by simp⟩
              case round =>
                obtain ⟨t, ht, rfl, rfl⟩ := hrel
                have r1 := HTR.out t ht
                have w4 : IntKind.i64.wrap ((c : Int) + 16) = (c : Int) + 16 := wrapI (by omega) (by omega)
                by_cases htl : t < 16
                · have r2 := HTR.out (t + 1) (by omega)
                  have hts := HTS.out t htl
                  have g1 := num_cell hbx.out (j := c + t) (by rw [HW3.out.1]; omega)
                  rw [HW3.out.2 t htl] at g1
                  have HTS1 : Hid (topN rg (t + 1) = 2 * topN rg t + bi (rg.getMsbD t)) := hts
                  have b1 := bi_01 (rg.getMsbD t)
                  clear hts
                  generalize bi (rg.getMsbD t) = x at *
                  generalize topN rg t = y at *
                  have k4 : (0 : Int) ≤ (c : Int) + (t : Int) := by omega
                  have k5 : (c : Int) + (t : Int) < (c : Int) + 16 := by omega
                  have kt : ((c : Int) + (t : Int)).toNat = c + t := by omega
                  go_wp2
                  go_round
                  case rel => exact ⟨t + 1, by omega, by rw [HTS1.out], by go_num⟩
                  case measure => simp [intOf]; omega
                · have k5 : ¬ (c : Int) + (t : Int) < (c : Int) + 16 := by omega
                  obtain rfl : t = 16 := by omega
                  have HRA2 : Hid (topN rg 16 = crcN l) := HRA
                  generalize topN rg 16 = y at *
                  go_wp2
                  go_ret
                  exact ⟨by rw [HRA2.out]; rfl, hb.out⟩
end Go.Proofs.Ytbbjpdadickilaa.Wt
