/- best.turned: the same steps, gone from behind. -/
import Derived.Test.YtobhjhjfannnnaaUai
namespace Go.Proofs.Ytobhjhjfannnnaa.Bw
open Go.ChangeShapes Go.WideShapes Go.ChangeAt Go.RowKit
open Go.Proofs.Ytobhjhjfannnnaa.Pl Go.Proofs.Ytobhjhjfannnnaa.Wt
set_option linter.unusedVariables false
set_option linter.unusedSimpArgs false
theorem rowW_get {w : World} {v : Value} {ws : List Ar} (h : Row 3 encW w v ws) : ∃ a cap, v = .slice a ws.length cap ∧ ∀ j, j < ws.length → ∃ b off, a = some ⟨b, off, none⟩ ∧ b < w.heap.size ∧ ThrW w b (off + j * 3) (el ws j) := by
 by_cases hz : 0 < ws.length
 ·obtain ⟨b, off, cap, rfl, hb, hc⟩ := Row.plain h (fun x => by rw [encW_len]; decide) hz
  exact ⟨_, _, rfl, fun j hj => ⟨b, off, rfl, hb, hc j hj 0 _ rfl, hc j hj 1 _ rfl, hc j hj 2 _ rfl⟩⟩
 ·obtain ⟨a, cap, rfl⟩ := Row.sl h
  exact ⟨a, cap, rfl, fun j hj => absurd hj (by omega)⟩
def StpT (w : World) (T n : Nat) (rows : List Value) (S : List (List Ar)) : Prop := T < w.heap.size ∧ ∀ q, q < n → w.cell? ⟨T, q, none⟩ = some (el rows q) ∧ Row 3 encW w (el rows q) (el S q)
theorem StpT.of {w : World} {base T n : Nat} {rows : List Value} {S : List (List Ar)} (h : RowT 3 encW 116 117 w base T n rows (fun j => el S j)) : StpT w T n rows S :=
 ⟨h.blk.lt, fun q hq => ⟨h.cell hq, h.Row encW_len hq⟩⟩
def trP (q p : Nat) (r : List Ar) : List Ar := r.flatMap fun s => if s.1 = (p : Int) then [((q : Int), 0, 0, s.2.2.2)] else []
def trQ (S : List (List Ar)) (q i : Nat) : Nat → List Ar := fun p => trS S q p ++ trP q p ((el S q).take i)
theorem trS_succ (S : List (List Ar)) (q p : Nat) : trS S (q + 1) p = trS S q p ++ trP q p (el S q) := by
 unfold trS trP
 rw [List.range_succ, List.flatMap_append]
 simp
theorem trQ_zero (S : List (List Ar)) : trQ S 0 0 = fun _ => [] := by
 funext p
 simp [trQ, trS, trP]
theorem trQ_next (S : List (List Ar)) (q : Nat) : trQ S q (el S q).length = trQ S (q + 1) 0 := by
 funext p
 unfold trQ
 rw [List.take_length, trS_succ, List.take_zero]
 simp [trP]
theorem trQ_step {S : List (List Ar)} {q i t : Nat} (hi : i < (el S q).length) (ht : (el (el S q) i).1 = (t : Int)) : putF t ((q : Int), 0, 0, (el (el S q) i).2.2.2) (trQ S q i) = trQ S q (i + 1) := by
 funext p
 unfold putF trQ trP
 rw [take_el hi, List.flatMap_append]
 by_cases h : p = t
 ·subst h
  rw [if_pos rfl, List.append_assoc]
  simp [ht]
 ·rw [if_neg h]
  have : ¬ (t : Int) = (p : Int) := by omega
  simp [ht, this]
theorem trP_len (q p : Nat) (r : List Ar) : (trP q p r).length ≤ r.length := by
  unfold trP
  induction r with
  | nil => simp
  | cons s r ih =>
    rw [List.flatMap_cons, List.length_append, List.length_cons]
    have h1 : (if s.1 = (p : Int) then [((q : Int), (0 : Int), (0 : Int), s.2.2.2)] else []).length ≤ 1 := by split <;> simp
    omega
theorem trQ_len {S : List (List Ar)} {n : Nat} (h : ∀ q, q < n → (el S q).length ≤ 500) {q i p : Nat} (hq : q < n) : (trQ S q i p).length ≤ (q + 1) * 500 := by
  have key : ∀ q, q ≤ n → (trS S q p).length ≤ q * 500 := by
    intro q
    induction q with
    | zero => intro _; simp [trS]
    | succ q ih =>
      intro hq
      have h1 := ih (by omega)
      have h2 := h q (by omega)
      have h3 := trP_len q p (el S q)
      rw [trS_succ, List.length_append]
      omega
  have h1 := key q (by omega)
  have h2 := h q hq
  have h3 := trP_len q p ((el S q).take i)
  rw [List.length_take] at h3
  unfold trQ
  rw [List.length_append]
  omega
def HeldTr (T t : Nat) (v : Value) (Y : Nat) (x0 x1 x2 : Int) (w : World) : Prop := w.cell? ⟨T, t, none⟩ = some v ∧ w.cell? ⟨Y, 0, none⟩ = some (.int .i64 x0) ∧ w.cell? ⟨Y, 1, none⟩ = some (.int .i64 x1) ∧ w.cell? ⟨Y, 2, none⟩ = some (.int .i64 x2)
set_option maxRecDepth 100000 in
set_option maxHeartbeats 6400000 in
theorem turned_any (T0 n : Nat) (rows0 : List Value) (S : List (List Ar)) (w : World) (hn : n ≤ 64) (hS : StsOk S) (hl : S.length = n) (hT : StpT w T0 n rows0 S) (h500 : ∀ q, q < n → (el S q).length ≤ 500) :
  Calls Try.prog 54 #[.slice (some ⟨T0, 0, none⟩) n n] w fun e w' => ∃ T rows, e = .returned (.slice (some ⟨T, 0, none⟩) n n) ∧ RowT 3 encW 116 117 w' w.heap.size T n rows (fun j => el (trL S) j) ∧ w.heap.size ≤ T ∧ Below w.heap.size w w' := by
 have HST := hidP hT
 have H5 := hidP h500
 have HOK : Hid (∀ q, q < n → ∀ s ∈ el S q, ∃ t : Nat, s.1 = (t : Int) ∧ t < n) := fun q hq s hs => by
  have h9 := (hS q (by rw [hl]; exact hq) s hs).2
  rw [hl] at h9
  exact h9
 have HDN : Hid (∀ w' T rows, RowT 3 encW 116 117 w' w.heap.size T n rows (trQ S n 0) → RowT 3 encW 116 117 w' w.heap.size T n rows (fun j => el (trL S) j)) := fun w' T rows k => ⟨k.len, k.blk, fun j hj => by
  have h9 := k.row j hj
  have e : trQ S n 0 j = el (trL S) j := by
   rw [trL_el (by rw [hl]; exact hj), hl]
   simp [trQ, trP]
  rw [e] at h9
  exact h9, k.apart⟩
 clear hT h500 hS hl
 have hmk := run_rowsW n (by omega)
 go_enter Try.func54, Try.ntmps54
 go_wp2
 go_loopw [13] (fun i wr => ∃ (q : Nat) (rows : List Value), q ≤ n ∧ i = .int .i64 q ∧ Hid (RowT 3 encW 116 117 wr w.heap.size w.heap.size n rows (trQ S q 0)) ∧ Hid (Below w.heap.size w wr)) (fun i _ => n - (intOf i).toNat)
 case atStart =>
  refine ⟨0, List.replicate n (.slice none 0 0), Nat.zero_le _, rfl, ?_, (Below.refl _ _).alloc (Nat.le_refl _) _⟩
  show RowT _ _ _ _ _ _ _ _ _ _
  rw [trQ_zero]
  refine RowT.start ?_
  have h9 := Blk.made w (List.replicate n (Value.slice none 0 0)).toArray 117
  simp only [World.size_alloc, List.toArray_replicate] at h9 ⊢
  exact h9
 case round =>
  obtain ⟨q, rows, hq, rfl, htab, hb⟩ := hrel
  by_cases hqn : q < n
  ·obtain ⟨c0, hR⟩ := HST.out.2 q hqn
   have c0 := (hb.out.cell (p := ⟨T0, q, none⟩) HST.out.1).trans c0
   obtain ⟨a2, cap2, hva, hga⟩ := rowW_get hR
   rw [hva] at c0
   have HGA := hidP hga
   have HL5 := hidP (H5.out q hqn)
   have HON := hidP (fun (i t : Nat) (hi : i < (el S q).length) (ht : (el (el S q) i).1 = (t : Int)) => trQ_step hi ht)
   have HOL : Hid (∀ i p, (trQ S q i p).length ≤ 40000) := fun i p => by
    have h1 := trQ_len (S := S) (n := n) H5.out (q := q) (i := i) (p := p) hqn
    omega
   have HN0 := hidP (trQ_next S q)
   have HOS := hidP (HOK.out q hqn)
   clear hR hga hva
   generalize el S q = r at *
   generalize hL : r.length = L at *
   have HL : Hid (r.length = L) := hL
   have hL500 : L ≤ 500 := HL5.out
   clear hL
   have hq0 : (0 : Int) ≤ (q : Int) := by omega
   have hq1 : (q : Int) < (n : Int) := by omega
   go_wp2
   go_loopw [20] (fun i wr => ∃ (j : Nat) (rows : List Value), j ≤ L ∧ i = .int .i64 j ∧ Hid (RowT 3 encW 116 117 wr w.heap.size w.heap.size n rows (trQ S q j)) ∧ Hid (Below w.heap.size w wr)) (fun i _ => L - (intOf i).toNat)
   case atStart => exact ⟨0, rows, Nat.zero_le _, rfl, htab, hb⟩
   case round =>
    clear htab hb
    obtain ⟨j, rows, hj, rfl, htab, hb⟩ := hrel
    by_cases hjL : j < L
    ·obtain ⟨b3, off3, rfl, hb3l, e0, e1, e2⟩ := HGA.out j hjL
     have e0 := (hb.out.cell (p := ⟨b3, off3 + j * 3, none⟩) hb3l).trans e0
     have e1 := (hb.out.cell (p := ⟨b3, off3 + j * 3 + 1, none⟩) hb3l).trans e1
     have e2 := (hb.out.cell (p := ⟨b3, off3 + j * 3 + 2, none⟩) hb3l).trans e2
     obtain ⟨t, ht, htn⟩ := HOS.out (el r j) (el_mem (by rw [HL.out]; exact hjL))
     have HT := hidP (HON.out j t hjL ht)
     have hj0 : (0 : Int) ≤ (j : Int) := by omega
     have hj1 : (j : Int) < (L : Int) := by omega
     have ht0 : (0 : Int) ≤ (t : Int) := by omega
     have ht1 : (t : Int) < (n : Int) := by omega
     have HLQ : Hid ((trQ S q j t).length ≤ 1000000) := by show _ ≤ _; have h1 := HOL.out j t; omega
     rw [ht] at e0
     have HENC : Hid (encW ((q : Int), 0, 0, (el r j).2.2.2) = [.int .i64 q, .int .i64 (kA (el r j).2.2.2), .int .i64 (kB (el r j).2.2.2)]) := rfl
     generalize ((q : Int), (0 : Int), (0 : Int), (el r j).2.2.2) = x at *
     generalize kA (el r j).2.2.2 = x1 at *
     generalize kB (el r j).2.2.2 = x2 at *
     clear ht
     have T1 := hidP (htab.out.alloc (.cells #[.int .i64 t, .int .i64 x1, .int .i64 x2] 116))
     have A1 := hidP (Blk.made wr #[.int .i64 t, .int .i64 x1, .int .i64 x2] 116)
     have B1 := hidP (hb.out.alloc hb.out.size (.cells #[.int .i64 t, .int .i64 x1, .int .i64 x2] 116))
     have HNE : Hid (some wr.heap.size ≠ (el rows t).ownBlock) := fun e => by
      have h9 := (htab.out.geB htn _ e.symm).2
      omega
     have HNG : Hid (wr.heap.size ≠ w.heap.size) := fun e => by
      have h9 := htab.out.blk.lt
      omega
     clear htab hb
     go_wp2
     generalize wr.alloc (.cells #[.int .i64 t, .int .i64 x1, .int .i64 x2] 116) = W1 at *
     generalize wr.heap.size = Y at *
     have T1 := hidP (T1.out.later (w' := W1.drew) ((Below.refl W1.heap.size W1).drew))
     have A1 := hidP A1.out.drew
     have B1 := hidP B1.out.drew
     obtain ⟨xa, xc, va, vc, w7, hx5, r7, t7, g7, c7, f7⟩ := pushW T1.out htn HLQ.out B1.out.size x
     have HS : HeldTr w.heap.size t (.slice xa (trQ S q j t).length xc) Y t x1 x2 W1.drew := ⟨by rw [← hx5]; exact T1.out.cell htn, A1.out.cell 0 rfl, A1.out.cell 1 rfl, A1.out.cell 2 rfl⟩
     clear e0 e1 e2
     rw [HENC.out] at r7 g7
     have T8 := hidP t7
     generalize trQ S q j = G at *
     have HS6 : HeldTr w.heap.size t (.slice xa (G t).length xc) Y t x1 x2 (W1.drew.alloc (.cells #[.int .i64 q, .int .i64 x1, .int .i64 x2] 116)) := ⟨by rw [← hx5]; exact (T1.out.alloc _).cell htn, (A1.out.alloc _).cell 0 rfl, (A1.out.alloc _).cell 1 rfl, (A1.out.alloc _).cell 2 rfl⟩
     have A7 := (A1.out.alloc (.cells #[.int .i64 q, .int .i64 x1, .int .i64 x2] 116)).grown g7 HNE.out
     have B8 := hidP (T1.out.kBel htn g7 B1.out (Nat.le_refl _) (Nat.le_refl _) B1.out.size (.slice va ((G t).length + 1) vc))
     have HS7 : HeldTr w.heap.size t (.slice xa (G t).length xc) Y t x1 x2 w7 := ⟨c7, A7.cell 0 rfl, A7.cell 1 rfl, A7.cell 2 rfl⟩
     have R7 := hidP r7
     clear r7 t7 g7 A7 hx5
     refine region_anyL (HeldTr w.heap.size t (.slice xa (G t).length xc) Y t x1 x2) 15 (by kernel_rfl) ?_
     refine anyL_tk (i := 0) (v := ?v0_1) aZ0 (by kernel_rfl) ?y0_1 HS ?r0_1
     case y0_1 => intro wx hx; obtain ⟨h0, h1, h2, h3⟩ := hx; go_simp; try (with_reducible rfl)
     simp only [Act.put, List.setIfInBounds_toArray, List.set_cons_zero, List.set_cons_succ]
     refine anyL_tk (i := 1) (v := ?v1_2) aZ1 (by kernel_rfl) ?y1_2 HS ?r1_2
     case y1_2 => intro wx hx; obtain ⟨h0, h1, h2, h3⟩ := hx; go_simp; try (with_reducible rfl)
     simp only [Act.put, List.setIfInBounds_toArray, List.set_cons_zero, List.set_cons_succ]
     refine anyL_tk (i := 2) (v := ?v2_3) aZ2 (by kernel_rfl) ?y2_3 HS ?r2_3
     case y2_3 => intro wx hx; obtain ⟨h0, h1, h2, h3⟩ := hx; go_simp; try (with_reducible rfl)
     simp only [Act.put, List.setIfInBounds_toArray, List.set_cons_zero, List.set_cons_succ]
     refine anyL_tk (i := 3) (v := ?v3_4) aZ3 (by kernel_rfl) ?y3_4 HS ?r3_4
     case y3_4 => intro wx hx; obtain ⟨h0, h1, h2, h3⟩ := hx; go_simp; try (with_reducible rfl)
     simp only [Act.put, List.setIfInBounds_toArray, List.set_cons_zero, List.set_cons_succ]
     refine anyL_tk (i := 4) (v := ?v4_5) aZ4 (by kernel_rfl) ?y4_5 HS ?r4_5
     case y4_5 => intro wx hx; obtain ⟨h0, h1, h2, h3⟩ := hx; go_simp; try (with_reducible rfl)
     simp only [Act.put, List.setIfInBounds_toArray, List.set_cons_zero, List.set_cons_succ]
     refine anyL_tk (i := 5) (v := ?v5_6) aZ5 (by kernel_rfl) ?y5_6 HS ?r5_6
     case y5_6 => intro wx hx; obtain ⟨h0, h1, h2, h3⟩ := hx; go_simp; try (with_reducible rfl)
     simp only [Act.put, List.setIfInBounds_toArray, List.set_cons_zero, List.set_cons_succ]
     refine anyL_tk (i := 6) (v := ?v6_7) aZ6 (by kernel_rfl) ?y6_7 HS ?r6_7
     case y6_7 => intro wx hx; obtain ⟨h0, h1, h2, h3⟩ := hx; go_simp; try (with_reducible rfl)
     simp only [Act.put, List.setIfInBounds_toArray, List.set_cons_zero, List.set_cons_succ]
     refine anyL_tk (i := 7) (v := ?v7_8) aZ7 (by kernel_rfl) ?y7_8 HS ?r7_8
     case y7_8 => intro wx hx; obtain ⟨h0, h1, h2, h3⟩ := hx; go_simp; try (with_reducible rfl)
     simp only [Act.put, List.setIfInBounds_toArray, List.set_cons_zero, List.set_cons_succ]
     refine anyL_tk (i := 8) (v := ?v8_9) aZ8 (by kernel_rfl) ?y8_9 HS ?r8_9
     case y8_9 => intro wx hx; obtain ⟨h0, h1, h2, h3⟩ := hx; go_simp; try (with_reducible rfl)
     simp only [Act.put, List.setIfInBounds_toArray, List.set_cons_zero, List.set_cons_succ]
     refine anyL_tk (i := 9) (v := ?v9_10) aZ9 (by kernel_rfl) ?y9_10 HS ?r9_10
     case y9_10 => intro wx hx; obtain ⟨h0, h1, h2, h3⟩ := hx; go_simp; try (with_reducible rfl)
     simp only [Act.put, List.setIfInBounds_toArray, List.set_cons_zero, List.set_cons_succ]
     refine anyL_tk (i := 10) (v := ?v10_11) aZ10 (by kernel_rfl) ?y10_11 HS ?r10_11
     case y10_11 => intro wx hx; obtain ⟨h0, h1, h2, h3⟩ := hx; go_simp; try (with_reducible rfl)
     simp only [Act.put, List.setIfInBounds_toArray, List.set_cons_zero, List.set_cons_succ]
     refine anyL_tk (i := 11) (v := ?v11_12) aZ11 (by kernel_rfl) ?y11_12 HS ?r11_12
     case y11_12 => intro wx hx; obtain ⟨h0, h1, h2, h3⟩ := hx; go_simp; try (with_reducible rfl)
     simp only [Act.put, List.setIfInBounds_toArray, List.set_cons_zero, List.set_cons_succ]
     refine anyL_one (i := 12) aZ12 (by kernel_rfl) rfl (fun K hK => ?_)
     go_simp
     refine hK _ _ (.inr HS6) ?_
     try simp only [Act.put, List.setIfInBounds_toArray, List.set_cons_zero, List.set_cons_succ]
     refine anyL_one (i := 13) aZ13 (by kernel_rfl) rfl (fun K hK => ?_)
     refine wp_append_run (.tmp 31) (.tmp 36) 117 rfl rfl rfl R7.out ?_
     refine hK _ _ (.inr HS7) ?_
     try simp only [Act.put, List.setIfInBounds_toArray, List.set_cons_zero, List.set_cons_succ]
     refine anyL_tk (i := 14) (v := ?v14_13) aZ14 (by kernel_rfl) ?y14_13 HS7 ?r14_13
     case y14_13 => intro wx hx; obtain ⟨h0, h1, h2, h3⟩ := hx; go_simp; try (with_reducible rfl)
     simp only [Act.put, List.setIfInBounds_toArray, List.set_cons_zero, List.set_cons_succ]
     refine anyL_one (i := 15) aZ15 (by kernel_rfl) rfl (fun K hK => ?_)
     go_simp
     refine hK _ _ (.inl rfl) (anyL_done (by kernel_rfl) (NoPanic.normal ?_))
     try simp only [Act.put, List.setIfInBounds_toArray, List.set_cons_zero, List.set_cons_succ]
     clear HS HS6 HS7 c7 f7
     go_wp2
     go_roundw
     case rel => exact ⟨j + 1, _, by omega, by go_num, by rw [← HT.out]; exact T8, B8⟩
     case measure => simp [intOf]; omega
    ·have hnl : ¬ (j : Int) < (L : Int) := by omega
     obtain rfl : L = j := by omega
     go_wp2
     go_roundw
     case rel => exact ⟨q + 1, rows, by omega, by go_num, by rw [← HN0.out]; exact htab, hb⟩
     case measure => simp [intOf]; omega
  ·have hnl : ¬ (q : Int) < (n : Int) := by omega
   have HT5 := hidP (HDN.out wr w.heap.size rows (by
    have h9 := htab.out
    rw [show q = n by omega] at h9
    exact h9))
   go_wp2
   go_ret
   exact ⟨_, rfl, ⟨rows, HT5.out⟩, Nat.le_refl _, hb.out⟩
end Go.Proofs.Ytobhjhjfannnnaa.Bw
