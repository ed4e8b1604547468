/- best.onward: where each state's arcs lead, and to the end. -/
import Derived.Test.YtfpibdaedfilaaaHar
import Derived.Test.YtfpibdaedfilaaaHab
import Derived.Test.YtfpibdaedfilaaaHaq
import Derived.Test.YtfpibdaedfilaaaHad
namespace Go.Proofs.Ytfpibdaedfilaaa.Bw
open Go.ChangeShapes Go.WideShapes Go.ChangeAt Go.RowKit
open Go.Proofs.Ytfpibdaedfilaaa.Pl Go.Proofs.Ytfpibdaedfilaaa.Wt
set_option linter.unusedVariables false
set_option linter.unusedSimpArgs false
def onQ (l : List St) (q i : Nat) : Nat → List Ar := fun j => if j < q then onS l j else if j = q then ((el l q).2.take i).map arS else []
theorem onQ_zero (l : List St) : onQ l 0 0 = fun _ => [] := by
 funext j
 unfold onQ
 rw [if_neg (Nat.not_lt_zero _)]
 split <;> simp
theorem onQ_arc {l : List St} {q i : Nat} (hi : i < (el l q).2.length) : putF q (arS (el (el l q).2 i)) (onQ l q i) = onQ l q (i + 1) := by
 funext j
 unfold putF onQ
 by_cases h : j = q
 ·subst h
  rw [if_pos rfl, if_neg (Nat.lt_irrefl _), if_neg (Nat.lt_irrefl _), if_pos rfl, if_pos rfl, take_el hi, List.map_append]
  rfl
 ·rw [if_neg h]
  by_cases g : j < q
  ·rw [if_pos g, if_pos g]
  ·rw [if_neg g, if_neg g, if_neg h, if_neg h]
theorem onQ_next {l : List St} {q : Nat} (h0 : (el l q).1 = 1000000001) : onQ l q (el l q).2.length = onQ l (q + 1) 0 := by
 funext j
 unfold onQ
 rcases Nat.lt_trichotomy j q with h | h | h
 ·rw [if_pos h, if_pos (by omega)]
 ·subst h
  rw [if_neg (Nat.lt_irrefl _), if_pos rfl, if_pos (Nat.lt_succ_self _), List.take_length]
  unfold onS
  rw [if_pos h0, List.append_nil]
 ·rw [if_neg (by omega), if_neg (by omega), if_neg (by omega)]
  split <;> simp
theorem onQ_fin {l : List St} {q : Nat} (h0 : (el l q).1 ≠ 1000000001) : putF q ((l.length : Int), 0, 0, (el l q).1 * 2147483648) (onQ l q (el l q).2.length) = onQ l (q + 1) 0 := by
 funext j
 unfold putF onQ
 rcases Nat.lt_trichotomy j q with h | h | h
 ·rw [if_neg (by omega), if_pos h, if_pos (by omega)]
 ·subst h
  rw [if_pos rfl, if_neg (Nat.lt_irrefl _), if_pos rfl, if_pos (Nat.lt_succ_self _), List.take_length]
  unfold onS
  rw [if_neg h0]
 ·rw [if_neg (by omega), if_neg (by omega), if_neg (by omega), if_neg (by omega)]
  split <;> simp
theorem onQ_len (l : List St) (q i j : Nat) : (onQ l q i j).length ≤ (el l j).2.length + 1 := by
 unfold onQ
 split
 ·unfold onS
  rw [List.length_append, List.length_map]
  split <;> simp
 ·split
  ·rename_i h
   subst h
   rw [List.length_map, List.length_take]
   omega
  ·simp
theorem onQ_done {l : List St} {j : Nat} (hj : j < l.length + 1) : onQ l l.length 0 j = el (onL l) j := by
 unfold onQ
 by_cases h : j < l.length
 ·rw [if_pos h, onL_el h]
 ·rw [if_neg h, show j = l.length by omega, onL_end, if_pos rfl]
  rfl
theorem encW_arS (a : Ar) : encW (arS a) = [.int .i64 a.2.2.2, .int .i64 a.2.2.1, .int .i64 1] := by
 unfold encW arS
 simp only [(key_mk (a := a.2.2.1) (b := 1) (by decide) (by decide)).1, (key_mk (a := a.2.2.1) (b := 1) (by decide) (by decide)).2]
theorem encW_fin (n : Int) (f : Int) : encW (n, 0, 0, f * 2147483648) = [.int .i64 n, .int .i64 f, .int .i64 0] := by
 have h := key_mk (a := f) (b := 0) (by decide) (by decide)
 rw [Int.add_zero] at h
 unfold encW
 simp only [h.1, h.2]
def HeldOn (T q : Nat) (v : Value) (X : Nat) (x0 x1 x2 x3 : Int) (w : World) : Prop := w.cell? ⟨T, q, none⟩ = some v ∧ w.cell? ⟨X, 0, none⟩ = some (.int .i64 x0) ∧ w.cell? ⟨X, 1, none⟩ = some (.int .i64 x1) ∧ w.cell? ⟨X, 2, none⟩ = some (.int .i64 x2) ∧ w.cell? ⟨X, 3, none⟩ = some (.int .i64 x3)
def HeldOf (T q : Nat) (v : Value) (X Y : Nat) (f : Int) (z : Int) (u : Value) (w : World) : Prop := w.cell? ⟨T, q, none⟩ = some v ∧ w.cell? ⟨X, 0, none⟩ = some (.int .i64 f) ∧ w.cell? ⟨Y, 0, none⟩ = some (.int .i64 z) ∧ w.cell? ⟨Y, 1, none⟩ = some u
set_option maxRecDepth 100000 in
set_option maxHeartbeats 6400000 in
theorem onward_any (z : Int) (vs : Value) (l : List St) (w : World) (h : Mach w (.agg #[.int .i64 z, vs]) (z, l)) (h60 : l.length ≤ 60) (h400 : ∀ q, q < l.length → (el l q).2.length ≤ 400) :
  Calls Try.prog 53 #[.agg #[.int .i64 z, vs]] w fun e w' => ∃ T rows, e = .returned (.slice (some ⟨T, 0, none⟩) (l.length + 1) (l.length + 1)) ∧ RowT 3 encW 134 135 w' w.heap.size T (l.length + 1) rows (fun j => el (onL l) j) ∧ w.heap.size ≤ T ∧ Below w.heap.size w w' := by
 obtain ⟨vs', hvs, hS⟩ := h
 simp only [Value.agg.injEq, Array.mk.injEq, List.cons.injEq, and_true, true_and] at hvs
 subst hvs
 obtain ⟨a, cap, rfl, hc⟩ := hS.get
 have HC : Hid (∀ j, j < l.length → ∃ b off va, a = some ⟨b, off, none⟩ ∧ b < w.heap.size ∧ w.cell? ⟨b, off + j * 2, none⟩ = some (.int .i64 (el l j).1) ∧ w.cell? ⟨b, off + j * 2 + 1, none⟩ = some va ∧ Arcs w va (el l j).2) := hc
 have H4 := hidP h400
 have HDN : Hid (∀ w' T rows, RowT 3 encW 134 135 w' w.heap.size T (l.length + 1) rows (onQ l l.length 0) → RowT 3 encW 134 135 w' w.heap.size T (l.length + 1) rows (fun j => el (onL l) j)) := fun w' T rows k => ⟨k.len, k.blk, fun j hj => by
  have h9 := k.row j hj
  rw [onQ_done hj] at h9
  exact h9, k.apart⟩
 clear hS hc h400
 generalize hn : l.length = n at *
 have HN : Hid (l.length = n) := hn
 clear hn
 have hmk := run_rowsW (n + 1) (by omega)
 rw [show ((n + 1 : Nat) : Int) = (n : Int) + 1 by omega] at hmk
 have h60z : (n : Int) ≤ 60 := by omega
 have hBx : ∀ (o : Obj), Below w.heap.size w (w.alloc o) := fun o => (Below.refl _ _).alloc (Nat.le_refl _) _
 go_enter Try.func53, Try.ntmps53
 go_wp2
 go_loopw [16] (fun i wr => ∃ (q : Nat) (rows : List Value), q ≤ n ∧ i = .int .i64 q ∧ Hid (RowT 3 encW 134 135 wr w.heap.size (w.heap.size + 1) (n + 1) rows (onQ l q 0)) ∧ Hid (Blk wr w.heap.size #[.int .i64 z, .slice a n cap] 27) ∧ Hid (Below w.heap.size w wr)) (fun i _ => n - (intOf i).toNat)
 case atStart =>
  refine ⟨0, List.replicate (n + 1) (.slice none 0 0), Nat.zero_le _, rfl, ?_, (Blk.made _ _ _).alloc _, (hBx _).alloc (by simp) _⟩
  show RowT _ _ _ _ _ _ _ _ _ _
  rw [onQ_zero]
  refine RowT.start ?_
  have h9 := Blk.made (w.alloc (.cells #[.int .i64 z, .slice a n cap] 27)) (List.replicate (n + 1) (Value.slice none 0 0)).toArray 135
  simp only [World.size_alloc, List.toArray_replicate] at h9 ⊢
  exact h9
 case round =>
  obtain ⟨q, rows, hq, rfl, htab, hbx, hb⟩ := hrel
  by_cases hqn : q < n
  ·obtain ⟨b, off, va, rfl, hbl, g0, g1, gA⟩ := HC.out q hqn
   obtain ⟨a2, cap2, hva, hga⟩ := gA.get
   subst hva
   have g0 := (hb.out.cell (p := ⟨b, off + q * 2, none⟩) hbl).trans g0
   have g1 := (hb.out.cell (p := ⟨b, off + q * 2 + 1, none⟩) hbl).trans g1
   have HGA := hidP hga
   have HL4 := hidP (H4.out q hqn)
   have HON := hidP (fun i (hi : i < (el l q).2.length) => onQ_arc (l := l) (q := q) hi)
   have HOL := hidP (fun i => onQ_len l q i q)
   have HN0 := hidP (fun (h0 : (el l q).1 = 1000000001) => onQ_next (l := l) (q := q) h0)
   have HN1 := hidP (fun (h0 : (el l q).1 ≠ 1000000001) => onQ_fin (l := l) (q := q) h0)
   rw [HN.out] at HN1
   clear gA hga
   generalize (el l q).1 = fin at *
   generalize (el l q).2 = ar at *
   generalize hL : ar.length = L at *
   have HL : Hid (ar.length = L) := hL
   clear hL
   have hL400 : L ≤ 400 := HL4.out
   have hq0 : (0 : Int) ≤ (q : Int) := by omega
   have hq1 : (q : Int) < (n : Int) := by omega
   have hq2 : (q : Int) < (n : Int) + 1 := by omega
   have hqN : q < n + 1 := by omega
   have T0 := hidP (htab.out.alloc (.cells #[.int .i64 fin, .slice a2 L cap2] 56))
   have M0 := hidP (hbx.out.alloc (.cells #[.int .i64 fin, .slice a2 L cap2] 56))
   have S0 := hidP (Blk.made wr #[.int .i64 fin, .slice a2 L cap2] 56)
   have B0 := hidP (hb.out.alloc hb.out.size (.cells #[.int .i64 fin, .slice a2 L cap2] 56))
   clear htab hbx hb
   go_wp2
   generalize wr.alloc (.cells #[.int .i64 fin, .slice a2 L cap2] 56) = wa at *
   generalize wr.heap.size = X at *
   go_loopw [24] (fun i wr => ∃ (j : Nat) (rows : List Value), j ≤ L ∧ i = .int .i64 j ∧ Hid (RowT 3 encW 134 135 wr w.heap.size (w.heap.size + 1) (n + 1) rows (onQ l q j)) ∧ Hid (Blk wr w.heap.size #[.int .i64 z, .slice (some ⟨b, off, none⟩) n cap] 27) ∧ Hid (Blk wr X #[.int .i64 fin, .slice a2 L cap2] 56) ∧ Hid (Below w.heap.size w wr)) (fun i _ => L - (intOf i).toNat)
   case atStart => exact ⟨0, rows, Nat.zero_le _, rfl, T0, M0, S0, B0⟩
   case round =>
    clear T0 M0 S0 B0
    obtain ⟨j, rows, hj, rfl, htab, hbx, hst, hb⟩ := hrel
    by_cases hjL : j < L
    ·obtain ⟨b3, off3, rfl, hb3l, e0, e1, e2, e3⟩ := HGA.out j hjL
     have e0 := (hb.out.cell (p := ⟨b3, off3 + j * 4, none⟩) hb3l).trans e0
     have e1 := (hb.out.cell (p := ⟨b3, off3 + j * 4 + 1, none⟩) hb3l).trans e1
     have e2 := (hb.out.cell (p := ⟨b3, off3 + j * 4 + 2, none⟩) hb3l).trans e2
     have e3 := (hb.out.cell (p := ⟨b3, off3 + j * 4 + 3, none⟩) hb3l).trans e3
     have HT := hidP (HON.out j hjL)
     have hj0 : (0 : Int) ≤ (j : Int) := by omega
     have hj1 : (j : Int) < (L : Int) := by omega
     have HENC : Hid (encW (arS (el ar j)) = [.int .i64 (el ar j).2.2.2, .int .i64 (el ar j).2.2.1, .int .i64 1]) := encW_arS _
     have HLEN := hidP (HOL.out j)
     generalize arS (el ar j) = x at *
     generalize el ar j = c at *
     obtain ⟨x0, x1, x2, x3⟩ := c
     simp only at e0 e1 e2 e3 HENC
     have T1 := hidP (htab.out.alloc (.cells #[.int .i64 x0, .int .i64 x1, .int .i64 x2, .int .i64 x3] 58))
     have M1 := hidP (hbx.out.alloc (.cells #[.int .i64 x0, .int .i64 x1, .int .i64 x2, .int .i64 x3] 58))
     have S1 := hidP (hst.out.alloc (.cells #[.int .i64 x0, .int .i64 x1, .int .i64 x2, .int .i64 x3] 58))
     have A1 := hidP (Blk.made wr #[.int .i64 x0, .int .i64 x1, .int .i64 x2, .int .i64 x3] 58)
     have B1 := hidP (hb.out.alloc hb.out.size (.cells #[.int .i64 x0, .int .i64 x1, .int .i64 x2, .int .i64 x3] 58))
     clear htab hbx hst hb
     go_wp2
     generalize wr.alloc (.cells #[.int .i64 x0, .int .i64 x1, .int .i64 x2, .int .i64 x3] 58) = W1 at *
     generalize wr.heap.size = Y at *
     obtain ⟨xa, xc, hxv⟩ := own_slW (T1.out.row q hqN)
     have HXV := hidP hxv
     have HS : HeldOn (w.heap.size + 1) q (.slice xa (onQ l q j q).length xc) Y x0 x1 x2 x3 W1.drew := ⟨by rw [← hxv]; exact T1.out.cell hqN, A1.out.cell 0 rfl, A1.out.cell 1 rfl, A1.out.cell 2 rfl, A1.out.cell 3 rfl⟩
     clear hxv e0 e1 e2 e3
     have HLQ : Hid ((onQ l q j q).length ≤ 1000000) := by show _ ≤ _; have h1 := HLEN.out; have h2 := HL4.out; have h3 := HL.out; omega
     generalize onQ l q j = G at *
     refine region_anyL (HeldOn (w.heap.size + 1) q (.slice xa (G q).length xc) Y x0 x1 x2 x3) 14 (by kernel_rfl) ?_
     refine anyL_tk (i := 0) (v := ?v0_1) aZ0 (by kernel_rfl) ?y0_1 HS ?r0_1
     case y0_1 => intro wx hx; obtain ⟨h0, h1, h2, h3, h4⟩ := hx; go_simp; try (with_reducible rfl)
     simp only [Act.put, List.setIfInBounds_toArray, List.set_cons_zero, List.set_cons_succ]
     refine anyL_tk (i := 1) (v := ?v1_2) aZ1 (by kernel_rfl) ?y1_2 HS ?r1_2
     case y1_2 => intro wx hx; obtain ⟨h0, h1, h2, h3, h4⟩ := hx; go_simp; try (with_reducible rfl)
     simp only [Act.put, List.setIfInBounds_toArray, List.set_cons_zero, List.set_cons_succ]
     refine anyL_tk (i := 2) (v := ?v2_3) aZ2 (by kernel_rfl) ?y2_3 HS ?r2_3
     case y2_3 => intro wx hx; obtain ⟨h0, h1, h2, h3, h4⟩ := hx; go_simp; try (with_reducible rfl)
     simp only [Act.put, List.setIfInBounds_toArray, List.set_cons_zero, List.set_cons_succ]
     refine anyL_tk (i := 3) (v := ?v3_4) aZ3 (by kernel_rfl) ?y3_4 HS ?r3_4
     case y3_4 => intro wx hx; obtain ⟨h0, h1, h2, h3, h4⟩ := hx; go_simp; try (with_reducible rfl)
     simp only [Act.put, List.setIfInBounds_toArray, List.set_cons_zero, List.set_cons_succ]
     refine anyL_tk (i := 4) (v := ?v4_5) aZ4 (by kernel_rfl) ?y4_5 HS ?r4_5
     case y4_5 => intro wx hx; obtain ⟨h0, h1, h2, h3, h4⟩ := hx; go_simp; try (with_reducible rfl)
     simp only [Act.put, List.setIfInBounds_toArray, List.set_cons_zero, List.set_cons_succ]
     refine anyL_tk (i := 5) (v := ?v5_6) aZ5 (by kernel_rfl) ?y5_6 HS ?r5_6
     case y5_6 => intro wx hx; obtain ⟨h0, h1, h2, h3, h4⟩ := hx; go_simp; try (with_reducible rfl)
     simp only [Act.put, List.setIfInBounds_toArray, List.set_cons_zero, List.set_cons_succ]
     refine anyL_tk (i := 6) (v := ?v6_7) aZ6 (by kernel_rfl) ?y6_7 HS ?r6_7
     case y6_7 => intro wx hx; obtain ⟨h0, h1, h2, h3, h4⟩ := hx; go_simp; try (with_reducible rfl)
     simp only [Act.put, List.setIfInBounds_toArray, List.set_cons_zero, List.set_cons_succ]
     refine anyL_tk (i := 7) (v := ?v7_8) aZ7 (by kernel_rfl) ?y7_8 HS ?r7_8
     case y7_8 => intro wx hx; obtain ⟨h0, h1, h2, h3, h4⟩ := hx; go_simp; try (with_reducible rfl)
     simp only [Act.put, List.setIfInBounds_toArray, List.set_cons_zero, List.set_cons_succ]
     refine anyL_tk (i := 8) (v := ?v8_9) aZ8 (by kernel_rfl) ?y8_9 HS ?r8_9
     case y8_9 => intro wx hx; obtain ⟨h0, h1, h2, h3, h4⟩ := hx; go_simp; try (with_reducible rfl)
     simp only [Act.put, List.setIfInBounds_toArray, List.set_cons_zero, List.set_cons_succ]
     refine anyL_one (i := 9) aZ9 (by kernel_rfl) rfl (fun K hK => ?_)
     go_simp
     with_reducible refine (byArc_any _ _ _ _ _).mono ?_
     rintro e w5 ⟨rfl, hb5⟩
     have hb5 : Below W1.heap.size W1 w5 := (Below.refl _ W1).drew.trans hb5
     have T5 := hidP (T1.out.later hb5)
     have A5 := hidP (A1.out.below hb5 A1.out.lt)
     have S5 := hidP (S1.out.below hb5 S1.out.lt)
     have M5 := hidP (M1.out.below hb5 M1.out.lt)
     have B5 := hidP (B1.out.trans (hb5.mono B1.out.size))
     obtain ⟨xa', xc', va, vc, w7, hx5, r7, t7, g7, c7, f7⟩ := pushW T5.out hqN HLQ.out B5.out.size x
     rw [HXV.out] at hx5
     simp only [Value.slice.injEq, true_and] at hx5
     obtain ⟨rfl, rfl⟩ := hx5
     rw [HENC.out] at r7 g7
     have T8 := hidP t7
     have HS5 : HeldOn (w.heap.size + 1) q (.slice xa (G q).length xc) Y x0 x1 x2 x3 w5 := ⟨by rw [← HXV.out]; exact T5.out.cell hqN, A5.out.cell 0 rfl, A5.out.cell 1 rfl, A5.out.cell 2 rfl, A5.out.cell 3 rfl⟩
     have HS6 : HeldOn (w.heap.size + 1) q (.slice xa (G q).length xc) Y x0 x1 x2 x3 (w5.alloc (.cells #[.int .i64 x3, .int .i64 x2, .int .i64 1] 134)) := ⟨by rw [← HXV.out]; exact (T5.out.alloc _).cell hqN, (A5.out.alloc _).cell 0 rfl, (A5.out.alloc _).cell 1 rfl, (A5.out.alloc _).cell 2 rfl, (A5.out.alloc _).cell 3 rfl⟩
     obtain ⟨A7, A8⟩ := T5.out.kBlk hqN g7 A5.out (by decide) (by decide) (.slice va ((G q).length + 1) vc)
     have S8 := hidP (T5.out.kBlk hqN g7 S5.out (by decide) (by decide) (.slice va ((G q).length + 1) vc)).2
     have M8 := hidP (T5.out.kBlk hqN g7 M5.out (by decide) (by decide) (.slice va ((G q).length + 1) vc)).2
     have B8 := hidP (T5.out.kBel hqN g7 B5.out (Nat.le_refl _) (Nat.le_succ _) B5.out.size (.slice va ((G q).length + 1) vc))
     have HS7 : HeldOn (w.heap.size + 1) q (.slice xa (G q).length xc) Y x0 x1 x2 x3 w7 := ⟨c7, A7.cell 0 rfl, A7.cell 1 rfl, A7.cell 2 rfl, A7.cell 3 rfl⟩
     have R7 := hidP r7
     clear r7 t7 g7 A7 A8 hb5
     refine hK _ _ (.inr HS5) ?_
     try simp only [Act.put, List.setIfInBounds_toArray, List.set_cons_zero, List.set_cons_succ]
     refine anyL_tk (i := 10) (v := ?v10_10) aZ10 (by kernel_rfl) ?y10_10 HS5 ?r10_10
     case y10_10 => intro wx hx; obtain ⟨h0, h1, h2, h3, h4⟩ := hx; go_simp; try (with_reducible rfl)
     simp only [Act.put, List.setIfInBounds_toArray, List.set_cons_zero, List.set_cons_succ]
     refine anyL_one (i := 11) aZ11 (by kernel_rfl) rfl (fun K hK => ?_)
     go_simp
     refine hK _ _ (.inr HS6) ?_
     try simp only [Act.put, List.setIfInBounds_toArray, List.set_cons_zero, List.set_cons_succ]
     refine anyL_one (i := 12) aZ12 (by kernel_rfl) rfl (fun K hK => ?_)
     refine wp_append_run (.tmp 33) (.tmp 39) 135 rfl rfl rfl R7.out ?_
     refine hK _ _ (.inr HS7) ?_
     try simp only [Act.put, List.setIfInBounds_toArray, List.set_cons_zero, List.set_cons_succ]
     refine anyL_tk (i := 13) (v := ?v13_11) aZ13 (by kernel_rfl) ?y13_11 HS7 ?r13_11
     case y13_11 => intro wx hx; obtain ⟨h0, h1, h2, h3, h4⟩ := hx; go_simp; try (with_reducible rfl)
     simp only [Act.put, List.setIfInBounds_toArray, List.set_cons_zero, List.set_cons_succ]
     refine anyL_one (i := 14) aZ14 (by kernel_rfl) rfl (fun K hK => ?_)
     go_simp
     refine hK _ _ (.inl rfl) (anyL_done (by kernel_rfl) (NoPanic.normal ?_))
     try simp only [Act.put, List.setIfInBounds_toArray, List.set_cons_zero, List.set_cons_succ]
     clear HS HS5 HS6 HS7 c7 f7
     go_wp2
     go_roundw
     case rel => exact ⟨j + 1, _, by omega, by go_num, by rw [← HT.out]; exact T8, M8, S8, B8⟩
     case measure => simp [intOf]; omega
    ·have hnl : ¬ (j : Int) < (L : Int) := by omega
     obtain rfl : L = j := by omega
     have cf := hst.out.cell 0 (v := .int .i64 fin) rfl
     have cm0 := hbx.out.cell 0 (v := .int .i64 z) rfl
     by_cases hf : fin = 1000000001
     ·have HT := hidP (HN0.out hf)
      subst hf
      clear cm0
      go_wp2
      go_roundw
      case rel => exact ⟨q + 1, rows, by omega, by go_num, by rw [← HT.out]; exact htab, hbx, hb⟩
      case measure => simp [intOf]; omega
     ·have HT := hidP (HN1.out hf)
      have hfb : (fin != 1000000001) = true := by simpa using hf
      have HENC := hidP (encW_fin (n : Int) fin)
      generalize ((n : Int), (0 : Int), (0 : Int), fin * 2147483648) = x at *
      have HLEN := hidP (HOL.out L)
      have HLQ : Hid ((onQ l q L q).length ≤ 1000000) := by show _ ≤ _; have h1 := HLEN.out; have h2 := HL4.out; have h3 := HL.out; omega
      obtain ⟨xa, xc, hxv⟩ := own_slW (htab.out.row q hqN)
      have HXV := hidP hxv
      have HS : HeldOf (w.heap.size + 1) q (.slice xa (onQ l q L q).length xc) X w.heap.size fin z (.slice (some ⟨b, off, none⟩) n cap) wr.drew := ⟨by rw [← hxv]; exact htab.out.cell hqN, hst.out.cell 0 rfl, hbx.out.cell 0 rfl, hbx.out.cell 1 rfl⟩
      clear hxv hf cm0
      generalize onQ l q L = G at *
      go_wp2
      refine region_anyL (HeldOf (w.heap.size + 1) q (.slice xa (G q).length xc) X w.heap.size fin z (.slice (some ⟨b, off, none⟩) n cap)) 15 (by kernel_rfl) ?_
      refine anyL_tk (i := 0) (v := ?v0_12) aZ0 (by kernel_rfl) ?y0_12 HS ?r0_12
      case y0_12 => intro wx hx; obtain ⟨h0, h1, h2, h3⟩ := hx; go_simp; try (with_reducible rfl)
      simp only [Act.put, List.setIfInBounds_toArray, List.set_cons_zero, List.set_cons_succ]
      refine anyL_tk (i := 1) (v := ?v1_13) aZ1 (by kernel_rfl) ?y1_13 HS ?r1_13
      case y1_13 => intro wx hx; obtain ⟨h0, h1, h2, h3⟩ := hx; go_simp; try (with_reducible rfl)
      simp only [Act.put, List.setIfInBounds_toArray, List.set_cons_zero, List.set_cons_succ]
      refine anyL_tk (i := 2) (v := ?v2_14) aZ2 (by kernel_rfl) ?y2_14 HS ?r2_14
      case y2_14 => intro wx hx; obtain ⟨h0, h1, h2, h3⟩ := hx; go_simp; try (with_reducible rfl)
      simp only [Act.put, List.setIfInBounds_toArray, List.set_cons_zero, List.set_cons_succ]
      refine anyL_tk (i := 3) (v := ?v3_15) aZ3 (by kernel_rfl) ?y3_15 HS ?r3_15
      case y3_15 => intro wx hx; obtain ⟨h0, h1, h2, h3⟩ := hx; go_simp; try (with_reducible rfl)
      simp only [Act.put, List.setIfInBounds_toArray, List.set_cons_zero, List.set_cons_succ]
      refine anyL_tk (i := 4) (v := ?v4_16) aZ4 (by kernel_rfl) ?y4_16 HS ?r4_16
      case y4_16 => intro wx hx; obtain ⟨h0, h1, h2, h3⟩ := hx; go_simp; try (with_reducible rfl)
      simp only [Act.put, List.setIfInBounds_toArray, List.set_cons_zero, List.set_cons_succ]
      refine anyL_tk (i := 5) (v := ?v5_17) aZ5 (by kernel_rfl) ?y5_17 HS ?r5_17
      case y5_17 => intro wx hx; obtain ⟨h0, h1, h2, h3⟩ := hx; go_simp; try (with_reducible rfl)
      simp only [Act.put, List.setIfInBounds_toArray, List.set_cons_zero, List.set_cons_succ]
      refine anyL_tk (i := 6) (v := ?v6_18) aZ6 (by kernel_rfl) ?y6_18 HS ?r6_18
      case y6_18 => intro wx hx; obtain ⟨h0, h1, h2, h3⟩ := hx; go_simp; try (with_reducible rfl)
      simp only [Act.put, List.setIfInBounds_toArray, List.set_cons_zero, List.set_cons_succ]
      refine anyL_tk (i := 8) (v := ?v8_19) aZ8 (by kernel_rfl) ?y8_19 HS ?r8_19
      case y8_19 => intro wx hx; obtain ⟨h0, h1, h2, h3⟩ := hx; go_simp; try (with_reducible rfl)
      simp only [Act.put, List.setIfInBounds_toArray, List.set_cons_zero, List.set_cons_succ]
      refine anyL_tk (i := 9) (v := ?v9_20) aZ9 (by kernel_rfl) ?y9_20 HS ?r9_20
      case y9_20 => intro wx hx; obtain ⟨h0, h1, h2, h3⟩ := hx; go_simp; try (with_reducible rfl)
      simp only [Act.put, List.setIfInBounds_toArray, List.set_cons_zero, List.set_cons_succ]
      refine anyL_tk (i := 10) (v := ?v10_21) aZ10 (by kernel_rfl) ?y10_21 HS ?r10_21
      case y10_21 => intro wx hx; obtain ⟨h0, h1, h2, h3⟩ := hx; go_simp; try (with_reducible rfl)
      simp only [Act.put, List.setIfInBounds_toArray, List.set_cons_zero, List.set_cons_succ]
      refine anyL_one (i := 7) aZ7 (by kernel_rfl) rfl (fun K hK => ?_)
      go_simp
      with_reducible refine (end_any _ _ _ _ _).mono ?_
      rintro e w5 ⟨rfl, hb5⟩
      have hb5 : Below wr.heap.size wr w5 := (Below.refl _ wr).drew.trans hb5
      have T5 := hidP (htab.out.later hb5)
      have S5 := hidP (hst.out.below hb5 hst.out.lt)
      have M5 := hidP (hbx.out.below hb5 hbx.out.lt)
      have B5 := hidP (hb.out.trans (hb5.mono hb.out.size))
      obtain ⟨xa', xc', va, vc, w7, hx5, r7, t7, g7, c7, f7⟩ := pushW T5.out hqN HLQ.out B5.out.size x
      rw [HXV.out] at hx5
      simp only [Value.slice.injEq, true_and] at hx5
      obtain ⟨rfl, rfl⟩ := hx5
      rw [HENC.out] at r7 g7
      have T8 := hidP t7
      have HS5 : HeldOf (w.heap.size + 1) q (.slice xa (G q).length xc) X w.heap.size fin z (.slice (some ⟨b, off, none⟩) n cap) w5 := ⟨by rw [← HXV.out]; exact T5.out.cell hqN, S5.out.cell 0 rfl, M5.out.cell 0 rfl, M5.out.cell 1 rfl⟩
      have HS6 : HeldOf (w.heap.size + 1) q (.slice xa (G q).length xc) X w.heap.size fin z (.slice (some ⟨b, off, none⟩) n cap) (w5.alloc (.cells #[.int .i64 n, .int .i64 fin, .int .i64 0] 134)) := ⟨by rw [← HXV.out]; exact (T5.out.alloc _).cell hqN, (S5.out.alloc _).cell 0 rfl, (M5.out.alloc _).cell 0 rfl, (M5.out.alloc _).cell 1 rfl⟩
      obtain ⟨S7, S8⟩ := T5.out.kBlk hqN g7 S5.out (by decide) (by decide) (.slice va ((G q).length + 1) vc)
      obtain ⟨M7, M8⟩ := T5.out.kBlk hqN g7 M5.out (by decide) (by decide) (.slice va ((G q).length + 1) vc)
      have M8 := hidP M8
      have B8 := hidP (T5.out.kBel hqN g7 B5.out (Nat.le_refl _) (Nat.le_succ _) B5.out.size (.slice va ((G q).length + 1) vc))
      have HS7 : HeldOf (w.heap.size + 1) q (.slice xa (G q).length xc) X w.heap.size fin z (.slice (some ⟨b, off, none⟩) n cap) w7 := ⟨c7, S7.cell 0 rfl, M7.cell 0 rfl, M7.cell 1 rfl⟩
      have R7 := hidP r7
      clear r7 t7 g7 S7 S8 M7 hb5
      refine hK _ _ (.inr HS5) ?_
      try simp only [Act.put, List.setIfInBounds_toArray, List.set_cons_zero, List.set_cons_succ]
      refine anyL_tk (i := 11) (v := ?v11_22) aZ11 (by kernel_rfl) ?y11_22 HS5 ?r11_22
      case y11_22 => intro wx hx; obtain ⟨h0, h1, h2, h3⟩ := hx; go_simp; try (with_reducible rfl)
      simp only [Act.put, List.setIfInBounds_toArray, List.set_cons_zero, List.set_cons_succ]
      refine anyL_one (i := 12) aZ12 (by kernel_rfl) rfl (fun K hK => ?_)
      go_simp
      refine hK _ _ (.inr HS6) ?_
      try simp only [Act.put, List.setIfInBounds_toArray, List.set_cons_zero, List.set_cons_succ]
      refine anyL_one (i := 13) aZ13 (by kernel_rfl) rfl (fun K hK => ?_)
      refine wp_append_run (.tmp 51) (.tmp 58) 135 rfl rfl rfl R7.out ?_
      refine hK _ _ (.inr HS7) ?_
      try simp only [Act.put, List.setIfInBounds_toArray, List.set_cons_zero, List.set_cons_succ]
      refine anyL_tk (i := 14) (v := ?v14_23) aZ14 (by kernel_rfl) ?y14_23 HS7 ?r14_23
      case y14_23 => intro wx hx; obtain ⟨h0, h1, h2, h3⟩ := hx; go_simp; try (with_reducible rfl)
      simp only [Act.put, List.setIfInBounds_toArray, List.set_cons_zero, List.set_cons_succ]
      refine anyL_one (i := 15) aZ15 (by kernel_rfl) rfl (fun K hK => ?_)
      go_simp
      refine hK _ _ (.inl rfl) (anyL_done (by kernel_rfl) (NoPanic.normal ?_))
      try simp only [Act.put, List.setIfInBounds_toArray, List.set_cons_zero, List.set_cons_succ]
      clear HS HS5 HS6 HS7 c7 f7 cf
      go_wp2
      go_roundw
      case rel => exact ⟨q + 1, _, by omega, by go_num, by rw [← HT.out]; exact T8, M8, B8⟩
      case measure => simp [intOf]; omega
  ·have hnl : ¬ (q : Int) < (n : Int) := by omega
   have HT5 := hidP (HDN.out wr (w.heap.size + 1) rows (by
    have h9 := htab.out
    rw [show q = n by omega] at h9
    exact h9))
   go_wp2
   go_ret
   exact ⟨_, rfl, ⟨rows, HT5.out⟩, Nat.le_succ _, hb.out⟩
theorem flat_takeA (ws : List Ar) : ∀ k, (ws.flatMap encW).take (k * 3) = (ws.take k).flatMap encW := by
  induction ws with
  | nil => intro k; simp
  | cons x ws ih =>
    intro k
    cases k with
    | zero => simp
    | succ k =>
      rw [List.flatMap_cons, List.take_succ_cons, List.flatMap_cons, ← ih k, List.take_append, encW_len, List.take_of_length_le (by rw [encW_len]; omega), show (k + 1) * 3 - 3 = k * 3 by omega]
theorem own_cutW {w : World} {base : Nat} {e : TypeId} {a : Option Addr} {n cap k : Nat} {ws : List Ar} (h : w.ownsRow base e 3 (.slice a n cap) n (ws.flatMap encW)) (hk : k < n) :
  ∃ g, a = some ⟨g, 0, none⟩ ∧ n ≤ cap ∧ w.ownsRow base e 3 (.slice (some ⟨g, 0, none⟩) k cap) k ((ws.take k).flatMap encW) := by
 have hlen := h.1
 rw [flat_length encW_len] at hlen
 rcases h.2 with ⟨hv, hn0⟩ | ⟨g, cap', cur, hv, hbg, hg, hnc, hcm, hcs, htake⟩
 ·omega
 ·simp only [Value.slice.injEq, true_and] at hv
  obtain ⟨rfl, rfl⟩ := hv
  refine ⟨g, rfl, hnc, ?_, .inr ⟨g, cap, cur, rfl, hbg, hg, by omega, hcm, hcs, ?_⟩⟩
  ·rw [flat_length encW_len, List.length_take]; omega
  ·have h1 : cur.toList.take (k * 3) = (cur.toList.take (n * 3)).take (k * 3) := by rw [List.take_take]; congr 1; omega
   rw [h1, htake, flat_takeA]
theorem assert_way (x0 xA xB : Int) (w : World) : (Instr.typeAssert (.iface 134 (.agg #[.int .i64 x0, .int .i64 xA, .int .i64 xB])) 20 134 false).run Try.prog w = .ok (.agg #[.int .i64 x0, .int .i64 xA, .int .i64 xB]) w := by kernel_rfl
def wayV (x : Ar) : Value := .iface 134 (.agg #[.int .i64 x.1, .int .i64 (kA x.2.2.2), .int .i64 (kB x.2.2.2)])
def HeldWb (B : Nat) (v : Value) (w : World) : Prop := w.cell? ⟨B, 0, none⟩ = some v ∧ w.frozen? ⟨B, 0, none⟩ = false
set_option maxRecDepth 100000 in
set_option maxHeartbeats 2000000 in
theorem wPop_any (B base : Nat) (v : Value) (hs : List Ar) (n : Nat) (w : World) (hB : Blk w B #[v] 136) (hown : w.ownsRow base 134 3 v hs.length (hs.flatMap encW)) (hl : hs.length = n + 1) (hn : n ≤ 10000000) :
  Calls Try.prog 128 #[.pointer (some ⟨B, 0, none⟩)] w fun e w' => e = .returned (wayV (el hs n)) ∧ ∃ v', Blk w' B #[v'] 136 ∧ w'.ownsRow base 134 3 v' n ((hs.take n).flatMap encW) ∧ v'.ownBlock = v.ownBlock ∧ Turn2 w w' B v.ownBlock := by
 obtain ⟨a, cap, hv⟩ := own_slW hown
 subst hv
 rw [hl] at hown hB
 obtain ⟨g, hga, hnc, hcut⟩ := own_cutW (k := n) hown (by omega)
 subst hga
 obtain ⟨c0, c3, c4⟩ := own_thr hown (j := n) (by omega)
 have cB := hB.cell 0 (v := .slice (some ⟨g, 0, none⟩) (n + 1) cap) rfl
 have fB := hB.fz 0
 have sB := hB.lt
 have hne : some B ≠ Value.ownBlock (.slice (some ⟨g, 0, none⟩) n cap) := own_ne hcut hB (by decide)
 have k1 : (0 : Int) ≤ (n : Int) := by omega
 have k2 : (n : Int) < (n : Int) + 1 := by omega
 have k3 : (n : Int) ≤ (cap : Int) := by omega
 have k5 : IntKind.i64.wrap (n : Int) = (n : Int) := wrapI (by omega) (by omega)
 obtain ⟨y, hy⟩ : ∃ y : Ar, el hs n = y := ⟨_, rfl⟩
 rw [hy] at c0 c3 c4
 rw [hy]
 clear hy
 obtain ⟨x0, x1, x2, x3⟩ := y
 simp only [wayV] at c0 c3 c4 ⊢
 have HO : Hid (((w.setCell ⟨B, 0, none⟩ (.slice (some ⟨g, 0, none⟩) n cap)).alloc (.cells #[.int .i64 x0, .int .i64 (kA x3), .int .i64 (kB x3)] 134)).ownsRow base 134 3 (.slice (some ⟨g, 0, none⟩) n cap) n ((hs.take n).flatMap encW)) := (hcut.kept (gSet w B 0 _) (.inr (Ne.symm hne))).alloc _
 have HB : Hid (Blk ((w.setCell ⟨B, 0, none⟩ (.slice (some ⟨g, 0, none⟩) n cap)).alloc (.cells #[.int .i64 x0, .int .i64 (kA x3), .int .i64 (kB x3)] 134)) B #[.slice (some ⟨g, 0, none⟩) n cap] 136) := by have h9 := (hB.set 0 (.slice (some ⟨g, 0, none⟩) n cap)).alloc (.cells #[.int .i64 x0, .int .i64 (kA x3), .int .i64 (kB x3)] 134); exact h9
 have HT : Hid (Turn2 w ((w.setCell ⟨B, 0, none⟩ (.slice (some ⟨g, 0, none⟩) n cap)).alloc (.cells #[.int .i64 x0, .int .i64 (kA x3), .int .i64 (kB x3)] 134)) B (Value.ownBlock (.slice (some ⟨g, 0, none⟩) (n + 1) cap))) := by
  have h1 : Turn2 w (w.setCell ⟨B, 0, none⟩ (.slice (some ⟨g, 0, none⟩) n cap)) B (Value.ownBlock (.slice (some ⟨g, 0, none⟩) (n + 1) cap)) := Turn2.set (Turn2.grown (gNew (Below.refl _ _)) B) 0 _
  exact h1.trans (Turn2.grown (World.grownBy_alloc _ _ _) B) (.inl rfl)
 rw [hl]
 clear hown hB hcut hne
 go_enter Try.func128, Try.ntmps128
 go_wp2
 go_ret
 exact ⟨rfl, _, HB.out, HO.out, rfl, HT.out⟩
set_option maxRecDepth 100000 in
set_option maxHeartbeats 2000000 in
theorem wPush_any (B base : Nat) (v : Value) (hs : List Ar) (q : Ar) (w : World) (hB : Blk w B #[v] 136) (hown : w.ownsRow base 134 3 v hs.length (hs.flatMap encW)) (hbase : base ≤ w.heap.size) (hn : hs.length ≤ 9000000) :
  Calls Try.prog 129 #[.pointer (some ⟨B, 0, none⟩), wayV q] w fun e w' => e = .returned (.tuple #[]) ∧ ∃ v', Blk w' B #[v'] 136 ∧ w'.ownsRow base 134 3 v' (hs ++ [q]).length ((hs ++ [q]).flatMap encW) ∧ Near w v.ownBlock v' ∧ Turn2 w w' B v.ownBlock := by
 obtain ⟨i1, hi1, hy0, hy1, hy2⟩ := info_parts infoWay
 obtain ⟨q0, q1, q2, q3⟩ := q
 obtain ⟨a, cap, hv⟩ := own_slW hown
 have HV : Hid (v = .slice a hs.length cap) := hv
 have O2 : Hid ((w.drew.alloc (.cells #[.int .i64 q0, .int .i64 (kA q3), .int .i64 (kB q3)] 134)).ownsRow base 134 3 v hs.length (hs.flatMap encW)) := World.ownsRow.alloc (w := w.drew) hown _
 have B2 : Hid (Blk (w.drew.alloc (.cells #[.int .i64 q0, .int .i64 (kA q3), .int .i64 (kB q3)] 134)) B #[v] 136) := hB.drew.alloc _
 obtain ⟨v4, w4, r4, ho4, hg4, hn4⟩ := run_append_spot (P := Try.prog) (w := w.drew.alloc (.cells #[.int .i64 q0, .int .i64 (kA q3), .int .i64 (kB q3)] 134)) encW_len (by decide) encW_one 136 136 base 134 i1 _ 24 Try.underlying136 hi1 hy0 hy1 hy2 rfl _ hs.length (hs.flatMap encW) O2.out _ [(q0, q1, q2, q3)] (oneRow (enc := encW) w.drew (q0, q1, q2, q3) rfl 134) (by simp; unfold maxLen; omega) (by simp; omega) (by rw [World.size_alloc]; exact Nat.le_succ_of_le hbase)
 have B4 : Hid (Blk w4 B #[v] 136) := B2.out.grown hg4 (own_ne O2.out B2.out (by decide))
 have hne : some B ≠ v4.ownBlock := own_ne ho4 B4.out (by decide)
 have O5 : Hid ((w4.setCell ⟨B, 0, none⟩ v4).ownsRow base 134 3 v4 (hs ++ [(q0, q1, q2, q3)]).length ((hs ++ [(q0, q1, q2, q3)]).flatMap encW)) := by
  show World.ownsRow _ _ _ _ _ _ _
  rw [List.length_append, List.flatMap_append]
  exact ho4.kept (gSet w4 B 0 _) (.inr (Ne.symm hne))
 have B5 : Hid (Blk (w4.setCell ⟨B, 0, none⟩ v4) B #[v4] 136) := by have h9 := B4.out.set 0 v4; exact h9
 have N5 : Hid (Near w v.ownBlock v4) := by
  rcases hn4 with e | ⟨b, e, hb⟩
  ·exact .inl e
  ·exact .inr ⟨b, e, by rw [World.size_alloc] at hb; exact Nat.le_of_succ_le hb⟩
 have T5 : Hid (Turn2 w (w4.setCell ⟨B, 0, none⟩ v4) B v.ownBlock) := by
  have h1 : w.grownBy (w.drew.alloc (.cells #[.int .i64 q0, .int .i64 (kA q3), .int .i64 (kB q3)] 134)) v.ownBlock := gNew ((Below.refl w.heap.size w).drew.alloc (Nat.le_refl _) _)
  exact Turn2.set (Turn2.grown (gTrans h1 hg4) B) 0 _
 have HS : HeldWb B v w.drew := ⟨hB.drew.cell 0 rfl, hB.drew.fz 0⟩
 have HSA : HeldWb B v (w.drew.alloc (.cells #[.int .i64 q0, .int .i64 (kA q3), .int .i64 (kB q3)] 134)) := ⟨B2.out.cell 0 rfl, B2.out.fz 0⟩
 have HS4 : HeldWb B v w4 := ⟨B4.out.cell 0 rfl, B4.out.fz 0⟩
 have f4 := B4.out.fz 0
 have c4 := B4.out.cell 0 (v := v) rfl
 have HR4 : Hid _ := r4
 obtain ⟨va4, vc4, hv4⟩ := own_slW ho4
 subst hv4
 rw [hv] at HS HSA HS4 HR4 c4
 clear hown hB ho4 hg4 hn4 r4 hne O2 B2
 obtain ⟨r, hr⟩ : ∃ r, v.ownBlock = r := ⟨_, rfl⟩
 rw [hr] at N5 T5
 rw [hr]
 clear hr HV
 simp only [wayV]
 have hta := assert_way q0 (kA q3) (kB q3)
 subst hv
 go_enter Try.func129, Try.ntmps129
 go_wp2
 refine region_anyL (HeldWb B (.slice a hs.length cap)) 9 (by kernel_rfl) ?_
 refine anyL_tk (i := 0) (v := ?v0_1) aZ0 (by kernel_rfl) ?y0_1 HS ?r0_1
 case y0_1 => intro wx hx; obtain ⟨h1, h2⟩ := hx; go_simp; try (with_reducible rfl)
 simp only [Act.put, List.setIfInBounds_toArray, List.set_cons_zero, List.set_cons_succ]
 refine anyL_tk (i := 1) (v := ?v1_2) aZ1 (by kernel_rfl) ?y1_2 HS ?r1_2
 case y1_2 => intro wx hx; obtain ⟨h1, h2⟩ := hx; go_simp; try (with_reducible rfl)
 simp only [Act.put, List.setIfInBounds_toArray, List.set_cons_zero, List.set_cons_succ]
 refine anyL_tk (i := 2) (v := ?v2_3) aZ2 (by kernel_rfl) ?y2_3 HS ?r2_3
 case y2_3 => intro wx hx; obtain ⟨h1, h2⟩ := hx; go_simp; try (with_reducible rfl)
 simp only [Act.put, List.setIfInBounds_toArray, List.set_cons_zero, List.set_cons_succ]
 refine anyL_tk (i := 3) (v := ?v3_4) aZ3 (by kernel_rfl) ?y3_4 HS ?r3_4
 case y3_4 => intro wx hx; obtain ⟨h1, h2⟩ := hx; go_simp; try (with_reducible rfl)
 simp only [Act.put, List.setIfInBounds_toArray, List.set_cons_zero, List.set_cons_succ]
 refine anyL_tk (i := 4) (v := ?v4_5) aZ4 (by kernel_rfl) ?y4_5 HS ?r4_5
 case y4_5 => intro wx hx; obtain ⟨h1, h2⟩ := hx; go_simp; try (with_reducible rfl)
 simp only [Act.put, List.setIfInBounds_toArray, List.set_cons_zero, List.set_cons_succ]
 refine anyL_tk (i := 5) (v := ?v5_6) aZ5 (by kernel_rfl) ?y5_6 HS ?r5_6
 case y5_6 => intro wx hx; obtain ⟨h1, h2⟩ := hx; go_simp; try (with_reducible rfl)
 simp only [Act.put, List.setIfInBounds_toArray, List.set_cons_zero, List.set_cons_succ]
 refine anyL_one (i := 6) aZ6 (by kernel_rfl) rfl (fun K hK => ?_)
 go_simp
 refine hK _ _ (.inr HSA) ?_
 try simp only [Act.put, List.setIfInBounds_toArray, List.set_cons_zero, List.set_cons_succ]
 refine anyL_one (i := 7) aZ7 (by kernel_rfl) rfl (fun K hK => ?_)
 refine wp_append_run (.tmp 7) (.tmp 10) 136 rfl rfl rfl HR4.out ?_
 refine hK _ _ (.inr HS4) ?_
 try simp only [Act.put, List.setIfInBounds_toArray, List.set_cons_zero, List.set_cons_succ]
 refine anyL_tk (i := 8) (v := ?v8_7) aZ8 (by kernel_rfl) ?y8_7 HS4 ?r8_7
 case y8_7 => intro wx hx; obtain ⟨h1, h2⟩ := hx; go_simp; try (with_reducible rfl)
 simp only [Act.put, List.setIfInBounds_toArray, List.set_cons_zero, List.set_cons_succ]
 refine anyL_one (i := 9) aZ9 (by kernel_rfl) rfl (fun K hK => ?_)
 go_simp
 refine hK _ _ (.inl rfl) (anyL_done (by kernel_rfl) (NoPanic.normal ?_))
 try simp only [Act.put, List.setIfInBounds_toArray, List.set_cons_zero, List.set_cons_succ]
 clear HS HSA HS4 f4 c4
 go_end0
 exact ⟨rfl, _, B5.out, O5.out, N5.out, T5.out⟩
end Go.Proofs.Ytfpibdaedfilaaa.Bw
