/- The program: a heap of ways in memory, and its methods that only read or exchange. -/
import Derived.Test.YtfpibdaedfilaaaHad
import Derived.Test.YtfpibdaedfilaaaHab
import Derived.Test.YtfpibdaedfilaaaHap
import Derived.Deep.QuietTactic
import Derived.BigQuiet
import Derived.RegionTactic
import Derived.BigRegion
import Derived.Deep.MidRow
namespace Go.Proofs.Ytfpibdaedfilaaa.Bw
open Go.ChangeShapes Go.WideShapes Go.ChangeAt Go.RowKit
open Go.Proofs.Ytfpibdaedfilaaa.Pl Go.Proofs.Ytfpibdaedfilaaa.Wt
set_option linter.unusedVariables false
set_option linter.unusedSimpArgs false
theorem load_wait (B : Nat) (w : World) {v : Value} (h : w.cell? ⟨B, 0, none⟩ = some v) : (loadVar 136 ⟨B, 0, none⟩).run Try.prog w = .ok v w := by
 simp [loadVar, isAgg, underlying, Try.underlying136, h, Result.andThen]
theorem methW_push (B : Nat) (w : World) : Sem.run Try.prog (method 287 137 (.pointer (some ⟨B, 0, none⟩)) "Push") w = .ok (129, .pointer (some ⟨B, 0, none⟩)) w := by kernel_rfl
theorem methW_pop (B : Nat) (w : World) : Sem.run Try.prog (method 287 137 (.pointer (some ⟨B, 0, none⟩)) "Pop") w = .ok (128, .pointer (some ⟨B, 0, none⟩)) w := by kernel_rfl
theorem methW_len0 (B : Nat) (w : World) : Sem.run Try.prog (method 287 137 (.pointer (some ⟨B, 0, none⟩)) "Len") w = Sem.run Try.prog (do let v ← loadVar 136 ⟨B, 0, none⟩; pure (80, v)) w := by kernel_rfl
theorem methW_less0 (B : Nat) (w : World) : Sem.run Try.prog (method 287 137 (.pointer (some ⟨B, 0, none⟩)) "Less") w = Sem.run Try.prog (do let v ← loadVar 136 ⟨B, 0, none⟩; pure (125, v)) w := by kernel_rfl
theorem methW_swap0 (B : Nat) (w : World) : Sem.run Try.prog (method 287 137 (.pointer (some ⟨B, 0, none⟩)) "Swap") w = Sem.run Try.prog (do let v ← loadVar 136 ⟨B, 0, none⟩; pure (126, v)) w := by kernel_rfl
theorem methW_len {B : Nat} {w : World} {v : Value} (h : w.cell? ⟨B, 0, none⟩ = some v) : Sem.run Try.prog (method 287 137 (.pointer (some ⟨B, 0, none⟩)) "Len") w = .ok (80, v) w := by
 rw [methW_len0]; simp [load_wait B w h, Sem.run_bind]
theorem methW_less {B : Nat} {w : World} {v : Value} (h : w.cell? ⟨B, 0, none⟩ = some v) : Sem.run Try.prog (method 287 137 (.pointer (some ⟨B, 0, none⟩)) "Less") w = .ok (125, v) w := by
 rw [methW_less0]; simp [load_wait B w h, Sem.run_bind]
theorem methW_swap {B : Nat} {w : World} {v : Value} (h : w.cell? ⟨B, 0, none⟩ = some v) : Sem.run Try.prog (method 287 137 (.pointer (some ⟨B, 0, none⟩)) "Swap") w = .ok (126, v) w := by
 rw [methW_swap0]; simp [load_wait B w h, Sem.run_bind]
def encW (a : Ar) : List Value := [.int .i64 a.1, .int .i64 (kA a.2.2.2), .int .i64 (kB a.2.2.2)]
theorem encW_len (a : Ar) : (encW a).length = 3 := rfl
theorem encW_one (a : Ar) : ∀ u ∈ encW a, u.oneCell' = true := by
 intro u hu
 simp [encW] at hu
 rcases hu with rfl | rfl | rfl <;> rfl
def ThrW (w : World) (b o : Nat) (a : Ar) : Prop := w.cell? ⟨b, o, none⟩ = some (.int .i64 a.1) ∧ w.cell? ⟨b, o + 1, none⟩ = some (.int .i64 (kA a.2.2.2)) ∧ w.cell? ⟨b, o + 2, none⟩ = some (.int .i64 (kB a.2.2.2))
theorem own_thr {w : World} {base : Nat} {e : TypeId} {g n cap j : Nat} {ws : List Ar} (h : w.ownsRow base e 3 (.slice (some ⟨g, 0, none⟩) n cap) n (ws.flatMap encW)) (hj : j < ws.length) : ThrW w g (j * 3) (el ws j) := by
 have hc : ∀ i u, i < 3 → (encW (el ws j))[i]? = some u → w.cell? ⟨g, j * 3 + i, none⟩ = some u := fun i u hi hu => by
  have := h.cells (g := g) rfl (j * 3 + i) u ((flat_at encW_len ws j hj i hi).trans hu)
  rw [Addr.add_lit, Nat.zero_add] at this
  exact this
 exact ⟨hc 0 _ (by omega) rfl, hc 1 _ (by omega) rfl, hc 2 _ (by omega) rfl⟩
theorem own_fzW {w : World} {base : Nat} {e : TypeId} {s g n cap : Nat} {ws : List Value} (h : w.ownsRow base e s (.slice (some ⟨g, 0, none⟩) n cap) n ws) (j : Nat) : w.frozen? ⟨g, j, none⟩ = false := by
 rcases h.2 with ⟨hv, hn0⟩ | ⟨g', cap', cur, hv, hbg, hg, _⟩
 ·simp at hv
 ·simp only [Value.slice.injEq, Option.some.injEq, Addr.mk.injEq, and_true, true_and] at hv
  obtain ⟨rfl, rfl⟩ := hv
  exact Blk.fz (t := e) hg j
theorem own_someW {w : World} {base : Nat} {e : TypeId} {s : Nat} {v : Value} {n : Nat} {ws : List Value} (h : w.ownsRow base e s v n ws) (hn : 0 < n) : ∃ g cap, v = .slice (some ⟨g, 0, none⟩) n cap ∧ g < w.heap.size ∧ n ≤ cap ∧ base ≤ g := by
 rcases h.2 with ⟨hv, hn0⟩ | ⟨g, cap, cur, rfl, hbg, hg, hnc, _⟩
 ·omega
 ·exact ⟨g, cap, rfl, Blk.lt (t := e) hg, hnc, hbg⟩
theorem own_slW {w : World} {base : Nat} {e : TypeId} {s : Nat} {v : Value} {n : Nat} {ws : List Value} (h : w.ownsRow base e s v n ws) : ∃ a cap, v = .slice a n cap := by
 rcases h.2 with ⟨hv, hn0⟩ | ⟨g, cap, cur, rfl, _⟩
 ·subst hn0; exact ⟨_, _, hv⟩
 ·exact ⟨_, _, rfl⟩
theorem own_thereW {w : World} {base : Nat} {e : TypeId} {g n cap j : Nat} {ws : List Ar} (h : w.ownsRow base e 3 (.slice (some ⟨g, 0, none⟩) n cap) n (ws.flatMap encW)) (hj : j < ws.length) : w.there g (j * 3) 3 := by
 obtain ⟨h0, h1, h2⟩ := own_thr h hj
 intro i hi
 refine ⟨?_, own_fzW h _⟩
 have : i = 0 ∨ i = 1 ∨ i = 2 := by omega
 rcases this with rfl | rfl | rfl
 ·rw [Nat.add_zero, h0]; rfl
 ·rw [h1]; rfl
 ·rw [h2]; rfl
theorem set_wayL {xs : List Ar} {k : Nat} (hk : k < xs.length) (p : Ar) : (((xs.flatMap encW).set (k * 3) (.int .i64 p.1)).set (k * 3 + 1) (.int .i64 (kA p.2.2.2))).set (k * 3 + 2) (.int .i64 (kB p.2.2.2)) = (xs.set k p).flatMap encW := by
  induction xs generalizing k with
  | nil => simp at hk
  | cons x xs ih =>
    cases k with
    | zero => simp [encW]
    | succ k =>
      have h4 := ih (k := k) (by simpa using hk)
      rw [List.set_cons_succ, List.flatMap_cons, List.flatMap_cons, ← h4]
      have e : ∀ (l : List Value) (i : Nat) (v : Value), (encW x ++ l).set ((k + 1) * 3 + i) v = encW x ++ l.set (k * 3 + i) v := fun l i v => by
        rw [List.set_append_right _ _ (by rw [encW_len]; omega), encW_len]
        congr 2
        omega
      have e0 := e (xs.flatMap encW) 0 (.int .i64 p.1)
      have e1 : (encW x ++ List.flatMap encW xs).set ((k + 1) * 3) (Value.int IntKind.i64 p.1) = encW x ++ (List.flatMap encW xs).set (k * 3) (Value.int IntKind.i64 p.1) := e0
      rw [e1, e, e]
theorem own_setW {w : World} {base : Nat} {e : TypeId} {g n cap j : Nat} {ws : List Ar} (h : w.ownsRow base e 3 (.slice (some ⟨g, 0, none⟩) n cap) n (ws.flatMap encW)) (hj : j < ws.length) (x : Ar) :
  (w.setCells g (j * 3) (encW x)).ownsRow base e 3 (.slice (some ⟨g, 0, none⟩) n cap) n ((ws.set j x).flatMap encW) := by
 have hlen := h.1
 rw [flat_length encW_len] at hlen
 rcases h.2 with ⟨hv, hn0⟩ | ⟨g', cap', cur, hv, hbg, hg, hnc, hcm, hcs, htake⟩
 ·simp at hv
 ·simp only [Value.slice.injEq, Option.some.injEq, Addr.mk.injEq, and_true, true_and] at hv
  obtain ⟨rfl, rfl⟩ := hv
  have hB : Blk w g cur e := hg
  refine ⟨by rw [flat_length encW_len, List.length_set]; exact hlen, .inr ⟨g, cap, ((cur.setIfInBounds (j * 3) (.int .i64 x.1)).setIfInBounds (j * 3 + 1) (.int .i64 (kA x.2.2.2))).setIfInBounds (j * 3 + 2) (.int .i64 (kB x.2.2.2)), rfl, hbg, ?_, hnc, hcm, by simpa using hcs, ?_⟩⟩
  ·have := ((hB.set (j * 3) (.int .i64 x.1)).set (j * 3 + 1) (.int .i64 (kA x.2.2.2))).set (j * 3 + 2) (.int .i64 (kB x.2.2.2))
   exact this
  ·rw [Array.toList_setIfInBounds, Array.toList_setIfInBounds, Array.toList_setIfInBounds, List.take_set, List.take_set, List.take_set, htake]
   exact set_wayL hj x
theorem gSetW (w : World) (g o : Nat) (x : Ar) : w.grownBy (w.setCells g o (encW x)) (some g) :=
 gTrans (gSet w g o (.int .i64 x.1)) (gTrans (gSet _ g (o + 1) (.int .i64 (kA x.2.2.2))) (gSet _ g (o + 2) (.int .i64 (kB x.2.2.2))))
set_option maxRecDepth 100000 in
theorem wLen_any (a : Option Addr) (n cap : Nat) (w : World) :
  Calls Try.prog 80 #[.slice a n cap] w fun e w' => e = .returned (.int .i64 (n : Int)) ∧ w' = w := by
 go_enter Try.func80, Try.ntmps80
 go_wp2
 go_ret
 exact ⟨rfl, rfl⟩
def HeldLs (g i j : Nat) (a b c d : Int) (w : World) : Prop := w.cell? ⟨g, i * 3 + 1, none⟩ = some (.int .i64 a) ∧ w.cell? ⟨g, i * 3 + 2, none⟩ = some (.int .i64 b) ∧ w.cell? ⟨g, j * 3 + 1, none⟩ = some (.int .i64 c) ∧ w.cell? ⟨g, j * 3 + 2, none⟩ = some (.int .i64 d)
set_option maxRecDepth 100000 in
set_option maxHeartbeats 2000000 in
theorem wLess_any (g n cap : Nat) (w : World) (x y : Int) (i j : Nat) (hi : i < n) (hj : j < n) (hn : n ≤ 10000000) (hg : g < w.heap.size) (ci : w.cell? ⟨g, i * 3 + 1, none⟩ = some (.int .i64 (kA x)) ∧ w.cell? ⟨g, i * 3 + 2, none⟩ = some (.int .i64 (kB x))) (cj : w.cell? ⟨g, j * 3 + 1, none⟩ = some (.int .i64 (kA y)) ∧ w.cell? ⟨g, j * 3 + 2, none⟩ = some (.int .i64 (kB y))) :
  Calls Try.prog 125 #[.slice (some ⟨g, 0, none⟩) n cap, .int .i64 (i : Int), .int .i64 (j : Int)] w fun e w' => e = .returned (.bool (decide (x < y))) ∧ Below w.heap.size w w' := by
 obtain ⟨a0, a1⟩ := ci
 obtain ⟨b0, b1⟩ := cj
 have HL : Hid (∀ W, Calls Try.prog 127 #[.agg #[.int .i64 (kA x), .int .i64 (kB x)], .agg #[.int .i64 (kA y), .int .i64 (kB y)]] W fun e w' => e = .returned (.bool (decide (x < y))) ∧ Below W.heap.size W w') := fun W => lessK_any x y W
 have k1 : (0 : Int) ≤ (i : Int) := by omega
 have k2 : (i : Int) < (n : Int) := by omega
 have k3 : (0 : Int) ≤ (j : Int) := by omega
 have k4 : (j : Int) < (n : Int) := by omega
 have HS : HeldLs g i j (kA x) (kB x) (kA y) (kB y) w.drew := ⟨a0, a1, b0, b1⟩
 have HLT : Hid (∀ w1, Below w.heap.size w.drew w1 → HeldLs g i j (kA x) (kB x) (kA y) (kB y) w1) := fun w1 hb => ⟨(hb.cell hg).trans a0, (hb.cell hg).trans a1, (hb.cell hg).trans b0, (hb.cell hg).trans b1⟩
 generalize decide (x < y) = bx at *
 generalize kA x = xa at *
 generalize kB x = xb at *
 generalize kA y = ya at *
 generalize kB y = yb at *
 clear a0 a1 b0 b1
 go_enter Try.func125, Try.ntmps125
 go_wp2
 refine region_anyL (HeldLs g i j xa xb ya yb) 1000 (by kernel_rfl) ?_
 refine anyL_tk (i := 0) (v := ?v0_1) aZ0 (by kernel_rfl) ?y0_1 HS ?r0_1
 case y0_1 => intro wx hx; obtain ⟨h0, h1, h2, h3⟩ := hx; go_simp; try (with_reducible rfl)
 simp only [Act.put, List.setIfInBounds_toArray, List.set_cons_zero, List.set_cons_succ]
 refine anyL_tk (i := 1) (v := ?v1_2) aZ1 (by kernel_rfl) ?y1_2 HS ?r1_2
 case y1_2 => intro wx hx; obtain ⟨h0, h1, h2, h3⟩ := hx; go_simp; try (with_reducible rfl)
 simp only [Act.put, List.setIfInBounds_toArray, List.set_cons_zero, List.set_cons_succ]
 refine anyL_tk (i := 2) (v := ?v2_3) aZ2 (by kernel_rfl) ?y2_3 HS ?r2_3
 case y2_3 => intro wx hx; obtain ⟨h0, h1, h2, h3⟩ := hx; go_simp; try (with_reducible rfl)
 simp only [Act.put, List.setIfInBounds_toArray, List.set_cons_zero, List.set_cons_succ]
 refine anyL_tk (i := 3) (v := ?v3_4) aZ3 (by kernel_rfl) ?y3_4 HS ?r3_4
 case y3_4 => intro wx hx; obtain ⟨h0, h1, h2, h3⟩ := hx; go_simp; try (with_reducible rfl)
 simp only [Act.put, List.setIfInBounds_toArray, List.set_cons_zero, List.set_cons_succ]
 refine anyL_tk (i := 4) (v := ?v4_5) aZ4 (by kernel_rfl) ?y4_5 HS ?r4_5
 case y4_5 => intro wx hx; obtain ⟨h0, h1, h2, h3⟩ := hx; go_simp; try (with_reducible rfl)
 simp only [Act.put, List.setIfInBounds_toArray, List.set_cons_zero, List.set_cons_succ]
 refine anyL_tk (i := 5) (v := ?v5_6) aZ5 (by kernel_rfl) ?y5_6 HS ?r5_6
 case y5_6 => intro wx hx; obtain ⟨h0, h1, h2, h3⟩ := hx; go_simp; try (with_reducible rfl)
 simp only [Act.put, List.setIfInBounds_toArray, List.set_cons_zero, List.set_cons_succ]
 refine anyL_tk (i := 6) (v := ?v6_7) aZ6 (by kernel_rfl) ?y6_7 HS ?r6_7
 case y6_7 => intro wx hx; obtain ⟨h0, h1, h2, h3⟩ := hx; go_simp; try (with_reducible rfl)
 simp only [Act.put, List.setIfInBounds_toArray, List.set_cons_zero, List.set_cons_succ]
 refine anyL_tk (i := 7) (v := ?v7_8) aZ7 (by kernel_rfl) ?y7_8 HS ?r7_8
 case y7_8 => intro wx hx; obtain ⟨h0, h1, h2, h3⟩ := hx; go_simp; try (with_reducible rfl)
 simp only [Act.put, List.setIfInBounds_toArray, List.set_cons_zero, List.set_cons_succ]
 refine anyL_tk (i := 8) (v := ?v8_9) aZ8 (by kernel_rfl) ?y8_9 HS ?r8_9
 case y8_9 => intro wx hx; obtain ⟨h0, h1, h2, h3⟩ := hx; go_simp; try (with_reducible rfl)
 simp only [Act.put, List.setIfInBounds_toArray, List.set_cons_zero, List.set_cons_succ]
 refine anyL_tk (i := 9) (v := ?v9_10) aZ9 (by kernel_rfl) ?y9_10 HS ?r9_10
 case y9_10 => intro wx hx; obtain ⟨h0, h1, h2, h3⟩ := hx; go_simp; try (with_reducible rfl)
 simp only [Act.put, List.setIfInBounds_toArray, List.set_cons_zero, List.set_cons_succ]
 refine anyL_one (i := 10) aZ10 (by kernel_rfl) rfl (fun K hK => ?_)
 go_simp
 with_reducible refine (HL.out _).mono ?_
 rintro e w1 ⟨rfl, hb1⟩
 have HB1 : Hid (Below w.heap.size w w1) := (Below.refl w.heap.size w).drew.trans hb1
 have HS1 := HLT.out w1 hb1
 refine hK _ _ (.inr HS1) ?_
 try simp only [Act.put, List.setIfInBounds_toArray, List.set_cons_zero, List.set_cons_succ]
 clear hb1 HS HL HLT
 refine anyL_one (i := 11) aZ11 (by kernel_rfl) rfl (fun K hK => ?_)
 go_simp
 refine hK _ _ (.inr HS1) (anyL_done (by kernel_rfl) (NoPanic.normal ?_))
 try simp only [Act.put, List.setIfInBounds_toArray, List.set_cons_zero, List.set_cons_succ]
 go_wp2
 go_ret
 exact ⟨rfl, HB1.out⟩
theorem infoWay : (Try.prog.info? 134).map (fun i => (i.zero, i.size, i.bytes)) = some (some (.agg #[.int .i64 0, .int .i64 0, .int .i64 0]), 3, 24) := by kernel_rfl
theorem infoWaySize : (Try.prog.info? 134).map (·.size) = some 3 := by kernel_rfl
def HeldTw (_ : World) : Prop := True
set_option maxRecDepth 100000 in
set_option maxHeartbeats 2000000 in
theorem wSwap_any (g n cap : Nat) (w : World) (x y : Ar) (i j : Nat) (hi : i < n) (hj : j < n) (hn : n ≤ 10000000) (ci : ThrW w g (i * 3) x) (cj : ThrW w g (j * 3) y) (fi : w.there g (i * 3) 3) (fj : w.there g (j * 3) 3) :
  Calls Try.prog 126 #[.slice (some ⟨g, 0, none⟩) n cap, .int .i64 (i : Int), .int .i64 (j : Int)] w fun e w' => e = .returned (.tuple #[]) ∧ w' = (w.drew.setCells g (i * 3) (encW y)).setCells g (j * 3) (encW x) := by
 have F1 : Hid (w.drew.there g (i * 3) 3) := fi
 have F2 : Hid ((w.drew.setCells g (i * 3) (encW y)).there g (j * 3) 3) := World.there_setCells (w := w.drew) fj g (i * 3) (encW y)
 obtain ⟨W2, hW2⟩ : ∃ W2, W2 = (w.drew.setCells g (i * 3) (encW y)).setCells g (j * 3) (encW x) := ⟨_, rfl⟩
 have HW2 : Hid (W2 = (w.drew.setCells g (i * 3) (encW y)).setCells g (j * 3) (encW x)) := hW2
 rw [← hW2]
 clear hW2
 obtain ⟨x0, x1, x2, x3⟩ := x
 obtain ⟨y0, y1, y2, y3⟩ := y
 obtain ⟨a0, a3, a4⟩ := ci
 obtain ⟨b0, b3, b4⟩ := cj
 simp only at a0 a3 a4 b0 b3 b4
 have k1 : (0 : Int) ≤ (i : Int) := by omega
 have k2 : (i : Int) < (n : Int) := by omega
 have k3 : (0 : Int) ≤ (j : Int) := by omega
 have k4 : (j : Int) < (n : Int) := by omega
 clear fi fj
 have HS : HeldTw w.drew := trivial
 go_enter Try.func126, Try.ntmps126
 go_wp2
 refine region_anyL HeldTw 15 (by kernel_rfl) ?_
 refine anyL_tk (i := 0) (v := ?v0_11) aZ0 (by kernel_rfl) ?y0_11 HS ?r0_11
 case y0_11 => intro wx hx; obtain h1 := hx; go_simp; try (with_reducible rfl)
 simp only [Act.put, List.setIfInBounds_toArray, List.set_cons_zero, List.set_cons_succ]
 refine anyL_tk (i := 1) (v := ?v1_12) aZ1 (by kernel_rfl) ?y1_12 HS ?r1_12
 case y1_12 => intro wx hx; obtain h1 := hx; go_simp; try (with_reducible rfl)
 simp only [Act.put, List.setIfInBounds_toArray, List.set_cons_zero, List.set_cons_succ]
 refine anyL_tk (i := 2) (v := ?v2_13) aZ2 (by kernel_rfl) ?y2_13 HS ?r2_13
 case y2_13 => intro wx hx; obtain h1 := hx; go_simp; try (with_reducible rfl)
 simp only [Act.put, List.setIfInBounds_toArray, List.set_cons_zero, List.set_cons_succ]
 refine anyL_tk (i := 3) (v := ?v3_14) aZ3 (by kernel_rfl) ?y3_14 HS ?r3_14
 case y3_14 => intro wx hx; obtain h1 := hx; go_simp; try (with_reducible rfl)
 simp only [Act.put, List.setIfInBounds_toArray, List.set_cons_zero, List.set_cons_succ]
 refine anyL_tk (i := 4) (v := ?v4_15) aZ4 (by kernel_rfl) ?y4_15 HS ?r4_15
 case y4_15 => intro wx hx; obtain h1 := hx; go_simp; try (with_reducible rfl)
 simp only [Act.put, List.setIfInBounds_toArray, List.set_cons_zero, List.set_cons_succ]
 refine anyL_tk (i := 5) (v := ?v5_16) aZ5 (by kernel_rfl) ?y5_16 HS ?r5_16
 case y5_16 => intro wx hx; obtain h1 := hx; go_simp; try (with_reducible rfl)
 simp only [Act.put, List.setIfInBounds_toArray, List.set_cons_zero, List.set_cons_succ]
 refine anyL_tk (i := 6) (v := ?v6_17) aZ6 (by kernel_rfl) ?y6_17 HS ?r6_17
 case y6_17 => intro wx hx; obtain h1 := hx; go_simp; try (with_reducible rfl)
 simp only [Act.put, List.setIfInBounds_toArray, List.set_cons_zero, List.set_cons_succ]
 refine anyL_tk (i := 8) (v := ?v8_18) aZ8 (by kernel_rfl) ?y8_18 HS ?r8_18
 case y8_18 => intro wx hx; obtain h1 := hx; go_simp; try (with_reducible rfl)
 simp only [Act.put, List.setIfInBounds_toArray, List.set_cons_zero, List.set_cons_succ]
 refine anyL_tk (i := 9) (v := ?v9_19) aZ9 (by kernel_rfl) ?y9_19 HS ?r9_19
 case y9_19 => intro wx hx; obtain h1 := hx; go_simp; try (with_reducible rfl)
 simp only [Act.put, List.setIfInBounds_toArray, List.set_cons_zero, List.set_cons_succ]
 refine anyL_tk (i := 10) (v := ?v10_20) aZ10 (by kernel_rfl) ?y10_20 HS ?r10_20
 case y10_20 => intro wx hx; obtain h1 := hx; go_simp; try (with_reducible rfl)
 simp only [Act.put, List.setIfInBounds_toArray, List.set_cons_zero, List.set_cons_succ]
 refine anyL_br (rs := [7, 11]) (by kernel_rfl) (by simp) (List.forall_mem_cons.2 ⟨⟨_, (atS (atS (atS (atS (atS (atS (atS at0))))))), rfl, fun K hK => ?_⟩, List.forall_mem_cons.2 ⟨⟨_, (atS (atS (atS (atS (atS (atS (atS (atS (atS (atS (atS at0))))))))))), rfl, fun K hK => ?_⟩, fun _ h => absurd h (by simp)⟩⟩)
 ·go_simp
  refine hK _ _ (.inr trivial) ?_
  try simp only [Act.put, List.setIfInBounds_toArray, List.set_cons_zero, List.set_cons_succ]
  refine anyL_one (i := 11) aZ11 (by kernel_rfl) rfl (fun K hK => ?_)
  go_simp
  refine hK _ _ (.inr trivial) ?_
  try simp only [Act.put, List.setIfInBounds_toArray, List.set_cons_zero, List.set_cons_succ]
  refine anyL_tk (i := 12) (v := ?v12_21) aZ12 (by kernel_rfl) ?y12_21 HS ?r12_21
  case y12_21 => intro wx hx; obtain h1 := hx; go_simp; try (with_reducible rfl)
  simp only [Act.put, List.setIfInBounds_toArray, List.set_cons_zero, List.set_cons_succ]
  refine anyL_one (i := 13) aZ13 (by kernel_rfl) rfl (fun K hK => ?_)
  refine wp_store_mid 134 (.tmp 18) (.tmp 13) rfl g (i * 3) #[.int .i64 y0, .int .i64 (kA y3), .int .i64 (kB y3)] rfl rfl F1.out infoWaySize (by simp [Value.oneCell']) ?_
  refine hK _ _ (.inr trivial) ?_
  try simp only [Act.put, List.setIfInBounds_toArray, List.set_cons_zero, List.set_cons_succ]
  refine anyL_tk (i := 14) (v := ?v14_22) aZ14 (by kernel_rfl) ?y14_22 trivial ?r14_22
  case y14_22 => intro wx hx; obtain h1 := hx; go_simp; try (with_reducible rfl)
  simp only [Act.put, List.setIfInBounds_toArray, List.set_cons_zero, List.set_cons_succ]
  refine anyL_one (i := 15) aZ15 (by kernel_rfl) rfl (fun K hK => ?_)
  refine wp_store_mid 134 (.tmp 19) (.tmp 17) rfl g (j * 3) #[.int .i64 x0, .int .i64 (kA x3), .int .i64 (kB x3)] rfl rfl F2.out infoWaySize (by simp [Value.oneCell']) ?_
  rw [show (World.setCells (World.setCells w.drew g (i * 3) (#[Value.int .i64 y0, .int .i64 (kA y3), .int .i64 (kB y3)] : Array Value).toList) g (j * 3) (#[Value.int .i64 x0, .int .i64 (kA x3), .int .i64 (kB x3)] : Array Value).toList) = W2 from HW2.out.symm]
  refine hK _ _ (.inl rfl) (anyL_done (by kernel_rfl) (NoPanic.normal ?_))
  clear a0 a3 a4 b0 b3 b4 F1 F2 HW2 hK
  go_end0
  exact ⟨rfl, rfl⟩
 ·go_simp
  refine hK _ _ (.inr trivial) ?_
  try simp only [Act.put, List.setIfInBounds_toArray, List.set_cons_zero, List.set_cons_succ]
  refine anyL_one (i := 7) aZ7 (by kernel_rfl) rfl (fun K hK => ?_)
  go_simp
  refine hK _ _ (.inr trivial) ?_
  try simp only [Act.put, List.setIfInBounds_toArray, List.set_cons_zero, List.set_cons_succ]
  refine anyL_tk (i := 12) (v := ?v12_23) aZ12 (by kernel_rfl) ?y12_23 HS ?r12_23
  case y12_23 => intro wx hx; obtain h1 := hx; go_simp; try (with_reducible rfl)
  simp only [Act.put, List.setIfInBounds_toArray, List.set_cons_zero, List.set_cons_succ]
  refine anyL_one (i := 13) aZ13 (by kernel_rfl) rfl (fun K hK => ?_)
  refine wp_store_mid 134 (.tmp 18) (.tmp 13) rfl g (i * 3) #[.int .i64 y0, .int .i64 (kA y3), .int .i64 (kB y3)] rfl rfl F1.out infoWaySize (by simp [Value.oneCell']) ?_
  refine hK _ _ (.inr trivial) ?_
  try simp only [Act.put, List.setIfInBounds_toArray, List.set_cons_zero, List.set_cons_succ]
  refine anyL_tk (i := 14) (v := ?v14_24) aZ14 (by kernel_rfl) ?y14_24 trivial ?r14_24
  case y14_24 => intro wx hx; obtain h1 := hx; go_simp; try (with_reducible rfl)
  simp only [Act.put, List.setIfInBounds_toArray, List.set_cons_zero, List.set_cons_succ]
  refine anyL_one (i := 15) aZ15 (by kernel_rfl) rfl (fun K hK => ?_)
  refine wp_store_mid 134 (.tmp 19) (.tmp 17) rfl g (j * 3) #[.int .i64 x0, .int .i64 (kA x3), .int .i64 (kB x3)] rfl rfl F2.out infoWaySize (by simp [Value.oneCell']) ?_
  rw [show (World.setCells (World.setCells w.drew g (i * 3) (#[Value.int .i64 y0, .int .i64 (kA y3), .int .i64 (kB y3)] : Array Value).toList) g (j * 3) (#[Value.int .i64 x0, .int .i64 (kA x3), .int .i64 (kB x3)] : Array Value).toList) = W2 from HW2.out.symm]
  refine hK _ _ (.inl rfl) (anyL_done (by kernel_rfl) (NoPanic.normal ?_))
  clear a0 a3 a4 b0 b3 b4 F1 F2 HW2 hK
  go_end0
  exact ⟨rfl, rfl⟩
end Go.Proofs.Ytfpibdaedfilaaa.Bw
namespace Go.Proofs.Ytfpibdaedfilaaa.Pl
set_option linter.unusedVariables false
set_option linter.unusedSimpArgs false
def zR (r : List Ar) : List Ar := r.map fun s => (s.1, 0, 0, 0)
def zS (S : List (List Ar)) : List (List Ar) := S.map zR
def zF (F : List (List Int)) : List (List Int) := F.map fun r => r.map fun _ => 0
theorem el_mapZ {α β : Type} [Inhabited α] [Inhabited β] {f : α → β} (hf : f default = default) (L : List α) (j : Nat) : el (L.map f) j = f (el L j) := by
 by_cases h : j < L.length
 ·rw [el_get (by simpa using h), el_get h, List.getElem_map]
 ·simp [el, Nat.le_of_not_lt h, hf]
theorem el_zS (S : List (List Ar)) (q : Nat) : el (zS S) q = zR (el S q) := el_mapZ (f := zR) rfl S q
theorem el_zF (F : List (List Int)) (q : Nat) : el (zF F) q = (el F q).map fun _ => 0 := el_mapZ (f := fun r : List Int => r.map fun _ => 0) rfl F q
theorem zS_len (S : List (List Ar)) : (zS S).length = S.length := by simp [zS]
theorem zF_set (F : List (List Int)) (q : Nat) (v : List Int) : zF (F.set q v) = (zF F).set q (v.map fun _ => 0) := by
 unfold zF
 rw [List.map_set]
structure CkI (S : List (List Ar)) (n start : Nat) (F : List (List Int)) (H : List Ar) : Prop where
 key : CwI capK S n start F H
 all : CwI 1 (zS S) n start (zF F) (zR H)
 okH : ∀ x ∈ H, KeyOk x.2.2.2 ∧ (x.2.2.2 = noK ∨ kB x.2.2.2 ≤ totF F)
 okF : ∀ p, p < S.length → ∀ y ∈ el F p, KeyOk y
section
variable {S : List (List Ar)} {n start : Nat} {F : List (List Int)} {H : List Ar}
theorem CkI.begin (hs : start < S.length) : CkI S n start (List.replicate S.length []) [((start : Int), 0, 0, 0)] := by
 refine ⟨CwI.begin hs, ?_, fun x hx => ?_, fun p _ y hy => absurd hy (by rw [el_nils]; simp)⟩
 ·have h := CwI.begin (CAP := 1) (st := zS S) (n := n) (start := start) (by rw [zS_len]; exact hs)
  rw [zS_len] at h
  have e : zF (List.replicate S.length []) = List.replicate S.length [] := by simp [zF]
  rw [e]
  exact h
 ·rw [List.mem_singleton] at hx
  subst hx
  refine ⟨.inr (show 0 ≤ kA 0 ∧ kA 0 ≤ 1000000000 ∧ 0 ≤ kB 0 ∧ kB 0 ≤ 1000000000 by decide), .inr ?_⟩
  show kB 0 ≤ _
  rw [show kB 0 = 0 by decide]
  omega
theorem CkI.perm {H' : List Ar} (h : CkI S n start F H) (e : H'.Perm H) : CkI S n start F H' :=
 ⟨h.key.perm e, h.all.perm (e.map _), fun x hx => h.okH x (e.mem_iff.1 hx), h.okF⟩
theorem CkI.find {x : Ar} {q : Nat} (hS : StsOk S) (hsm : S.length * n ≤ 1000000) (h : CkI S n start F (x :: H)) (hx : x.1 = (q : Int)) (hl : (el F q).length < n) (hmin : ∀ y ∈ H, x.2.2.2 ≤ y.2.2.2) :
  CkI S n start (F.set q (el F q ++ [x.2.2.2])) (H ++ (el S q).map fun s => (s.1, 0, 0, bothK x.2.2.2 s.2.2.2)) := by
 obtain ⟨t, e, hq⟩ := h.key.hto x (List.mem_cons_self ..)
 have eq : t = q := by omega
 subst eq
 have hqF : t < F.length := by rw [h.key.len]; exact hq
 have htot : totF F ≤ 1000000 := by
  have := totF_le (n := n) (F := F) fun p hp => h.key.few p (by rw [← h.key.len]; exact hp)
  rw [h.key.len] at this
  omega
 have hxo := h.okH x (List.mem_cons_self ..)
 have hxb : x.2.2.2 = noK ∨ kB x.2.2.2 ≤ 1000000 := by
  rcases hxo.2 with g | g
  ·exact .inl g
  ·exact .inr (by omega)
 refine ⟨h.key.find e hl hmin hS.hw (fun s => bothK x.2.2.2 s) (fun s hs => ⟨bothK_ge hxo.1 (hS t hq s hs).1, fun c hc => bothK_le hxo.1 hxb (hS t hq s hs).1 hc⟩), ?_, fun y hy => ?_, fun p hp y hy => ?_⟩
 ·have h0 := CwI.find (x := (x.1, 0, 0, 0)) (q := t) (H := zR H) h.all e (by rw [el_zF, List.length_map]; exact hl) (fun y hy => by
   obtain ⟨z, _, rfl⟩ := List.mem_map.1 hy
   exact Int.le_refl _) (fun j hj s hs => by
   rw [el_zS] at hs
   obtain ⟨r, hr, rfl⟩ := List.mem_map.1 hs
   rw [zS_len] at hj ⊢
   exact ⟨Int.le_refl _, (hS j hj r hr).2⟩) (fun _ => 0) (fun s hs => by
   rw [el_zS] at hs
   obtain ⟨r, hr, rfl⟩ := List.mem_map.1 hs
   exact ⟨Int.le_refl _, fun c _ => by simp⟩)
  rw [el_zF, el_zS] at h0
  have e1 : zF (F.set t (el F t ++ [x.2.2.2])) = (zF F).set t ((el F t).map (fun _ => 0) ++ [0]) := by rw [zF_set, List.map_append]; rfl
  have e2 : zR (H ++ (el S t).map fun s => (s.1, 0, 0, bothK x.2.2.2 s.2.2.2)) = zR H ++ (zR (el S t)).map fun s => (s.1, 0, 0, 0) := by
   unfold zR
   rw [List.map_append, List.map_map, List.map_map]
   rfl
  rw [e1, e2]
  exact h0
 ·rw [totF_set hqF]
  rcases List.mem_append.1 hy with hy | hy
  ·obtain ⟨h1, h2⟩ := h.okH y (List.mem_cons_of_mem _ hy)
   refine ⟨h1, ?_⟩
   rcases h2 with g | g
   ·exact .inl g
   ·exact .inr (by omega)
  ·obtain ⟨s, hs, rfl⟩ := List.mem_map.1 hy
   have hs1 := hS t hq s hs
   obtain ⟨g1, g2⟩ := bothK_ok hxo.1 hs1.key
   refine ⟨g1, ?_⟩
   rcases g2 with g | g
   ·exact .inl g
   ·rcases hxo.2 with k | k
    ·left
     show bothK x.2.2.2 s.2.2.2 = noK
     rw [k]
     unfold bothK
     rw [if_neg]
     have := hs1.1
     rw [noK_parts.1]
     omega
    ·right
     show kB (bothK x.2.2.2 s.2.2.2) ≤ _
     have := hs1.1
     omega
 ·rw [el_setF hqF] at hy
  split at hy
  ·rcases List.mem_append.1 hy with hy | hy
   ·exact h.okF t hq y hy
   ·rw [List.mem_singleton.1 hy]; exact hxo.1
  ·exact h.okF p hp y hy
theorem CkI.drop {x : Ar} {q : Nat} (h : CkI S n start F (x :: H)) (hx : x.1 = (q : Int)) (hl : (el F q).length = n) : CkI S n start F H :=
 ⟨h.key.drop hx hl, h.all.drop (x := (x.1, 0, 0, 0)) hx (by rw [el_zF, List.length_map]; exact hl), fun y hy => h.okH y (List.mem_cons_of_mem _ hy), h.okF⟩
theorem wC_all {W : Int} (hW0 : 0 ≤ W) (hW : ∀ q, q < S.length → ∀ s ∈ el S q, s.2.2.2 ≤ W) : ∀ (k p : Nat) (c : Int), (k : Int) * W ≤ c → wC S start k p c = wC (zS S) start k p 0
  | 0, p, c, _ => rfl
  | k + 1, p, c, h => by
    rw [wC_succ, wC_succ]
    have h0 : 0 ≤ c := by
      have : 0 ≤ ((k + 1 : Nat) : Int) * W := Int.mul_nonneg (by omega) hW0
      omega
    congr 1
    · unfold atS
      by_cases g : p = start <;> simp [g, h0]
    · unfold sumS
      rw [zS_len]
      congr 1
      refine List.map_congr_left fun q hq => ?_
      rw [el_zS]
      unfold zR
      rw [List.map_map]
      congr 1
      refine List.map_congr_left fun s hs => ?_
      show (if s.1 = (p : Int) then wC S start k q (c - s.2.2.2) else 0) = if s.1 = (p : Int) then wC (zS S) start k q (0 - 0) else 0
      have h1 := hW q (List.mem_range.1 hq) s hs
      have h2 : (k : Int) * W ≤ c - s.2.2.2 := by
        rw [Int.natCast_add, Int.add_mul] at h
        omega
      rw [wC_all hW0 hW k q _ h2, Int.sub_zero]
theorem CkI.len (hS : StsOk S) (h : CkI S n start F []) {k p : Nat} (hk : S.length * n + 1 ≤ k) (hp : p < S.length) : (el F p).length = min n (wC (zS S) start k p 0) := by
 have h1 := h.all.done (fun j hj s hs => by
  rw [el_zS] at hs
  obtain ⟨r, hr, rfl⟩ := List.mem_map.1 hs
  rw [zS_len] at hj ⊢
  exact ⟨Int.le_refl _, (hS j hj r hr).2⟩) (k := k) (by rw [zS_len]; exact hk) p (by rw [zS_len]; exact hp) 0 (by decide)
 rw [← h1, el_zF]
 unfold cLe
 rw [List.countP_eq_length.2 fun x hx => by
  obtain ⟨_, _, rfl⟩ := List.mem_map.1 hx
  decide]
 simp
end
theorem sN_more (l : List St) : ∀ (k q : Nat) {c d : Nat}, c ≤ d → sN l k q c ≤ sN l k q d
  | 0, q, c, d, _ => Nat.le_refl _
  | k + 1, q, c, d, h => by
    rw [sN_front, sN_front]
    refine Nat.add_le_add ?_ (sumN_le fun a _ => ?_)
    · unfold fE
      split
      · rename_i g
        rw [if_pos ⟨g.1, by omega⟩]
        exact Nat.le_refl _
      · exact Nat.zero_le _
    · split
      · rename_i g
        rw [if_pos (by omega)]
        exact sN_more l k _ (by omega)
      · exact Nat.zero_le _
theorem rnd_exists {l : List St} (hR : RgtL l) (n : Nat) : ∀ k q, q < l.length → ∃ L, RndN l k q n L
  | 0, q, _ => ⟨[], RndN.zero l q n⟩
  | k + 1, q, hq => by
    obtain ⟨f0, f1⟩ := hR.fin q hq
    have key : ∀ i, i ≤ (el l q).2.length → ∃ L, InsN n (fun c => fE l q c + sA l k ((el l q).2.take i) c) L := by
      intro i
      induction i with
      | zero =>
        intro _
        by_cases h : (el l q).1 = 1000000001
        · exact ⟨_, InsN.nofin h k _⟩
        · exact ⟨_, InsN.fin f0 h k _⟩
      | succ i ih =>
        intro hi
        obtain ⟨L, hL⟩ := ih (by omega)
        obtain ⟨w0, w1, t, e, ht⟩ := hR.arc q hq _ (el_mem (show i < (el l q).2.length by omega))
        obtain ⟨T, hT⟩ := rnd_exists hR n k t ht
        have step : ∀ j, j ≤ T.length → ∃ L, InsN n (fun c => fE l q c + sA l k ((el l q).2.take i) c + cUp T (el (el l q).2 i).2.2.1 j c) L := by
          intro j
          induction j with
          | zero => intro _; exact ⟨L, hL.up0⟩
          | succ j ih2 =>
            intro hj
            obtain ⟨L2, hL2⟩ := ih2 (by omega)
            exact ⟨_, hL2.up (by omega) (by have := hT.pos _ (el_mem (show j < T.length by omega)); omega)⟩
        obtain ⟨L3, hL3⟩ := step _ (Nat.le_refl _)
        exact ⟨L3, InsN.arc (by omega) e w0 hT hL3⟩
    obtain ⟨L, hL⟩ := key _ (Nat.le_refl _)
    rw [List.take_length] at hL
    exact ⟨L, RndN.next hL⟩
theorem RgtL.to {l : List St} (hR : RgtL l) : ∀ q, q < l.length → ∀ a ∈ (el l q).2, ∃ t : Nat, a.2.2.2 = (t : Int) ∧ t < l.length := fun q hq a ha => (hR.arc q hq a ha).2.2
theorem cheap_exists {l : List St} (hR : RgtL l) (n : Nat) {q : Nat} (hq : q < l.length) : ∃ L, CheapN l q n L := by
 obtain ⟨L, hL⟩ := rnd_exists hR n (l.length * (n + 1)) q hq
 exact ⟨L, hL.done hR.to hq (Nat.le_refl _)⟩
theorem cLe_map_kA (L : List Int) (c : Int) : cLe (L.map kA) c = cLe L (c * 2147483648 + 2147483647) := by
 unfold cLe
 rw [List.countP_map]
 congr 1
 funext x
 simp only [Function.comp_def, decide_eq_decide]
 unfold kA
 omega
theorem cLe_all {L : List Int} {c : Int} (h : ∀ x ∈ L, x ≤ c) : cLe L c = L.length := List.countP_eq_length.2 fun x hx => by have := h x hx; simpa using this
theorem cLe_lt {L : List Int} {c : Int} (h : ∃ x ∈ L, c < x) : cLe L c < L.length := by
 obtain ⟨x, hx, hc⟩ := h
 rcases Nat.lt_or_ge (cLe L c) L.length with g | g
 ·exact g
 ·have h1 : cLe L c = L.length := Nat.le_antisymm (cLe_len L c) g
  have h2 := List.countP_eq_length.1 h1 x hx
  simp at h2
  omega
theorem costs_found {l : List St} (hR : RgtL l) {n start : Nat} (hs : start < l.length) (hl : l.length ≤ 64) (hn : n ≤ 20) {F : List (List Int)} (h : CkI (onL l) n start F []) :
  ∃ R, CheapN l start n R ∧ ((∀ x ∈ el F l.length, kA x ≤ 1000000000) → R = (el F l.length).map kA) ∧ ((∃ x ∈ el F l.length, 1000000000 < kA x) → ∃ x ∈ R, 1000000000 < x) := by
 obtain ⟨R, hC⟩ := cheap_exists hR n hs
 have hS := onL_ok hR
 have hX := XP.fro hR
 have hN : (onL l).length = l.length + 1 := onL_len l
 obtain ⟨K, hK⟩ : ∃ K, K = (l.length + 1) * n + l.length * (n + 1) + 2 := ⟨_, rfl⟩
 have hm1 : (l.length + 1) * n ≤ 65 * 20 := Nat.mul_le_mul (by omega) hn
 have hm2 : l.length * (n + 1) ≤ 64 * 21 := Nat.mul_le_mul hl (by omega)
 have hK1 : (onL l).length * n + 1 ≤ K + 1 := by rw [hN]; omega
 have hK2 : l.length * (n + 1) ≤ K := by omega
 have hst : ∀ c, min n (sN l K start c) = min n (sN l (l.length * (n + 1) + 1) start c) := fun c => by
  rw [sN_stable hR.to hs (Nat.le_refl _) hK2, ← sN_stable hR.to hs (Nat.le_refl _) (Nat.le_succ (l.length * (n + 1)))]
 -- at most so much
 have ha : ∀ c : Nat, c ≤ 1000000000 → cLe (el F l.length) ((c : Int) * 2147483648 + 2147483647) = min n (sN l (l.length * (n + 1) + 1) start c) := fun c hc => by
  rw [h.key.done hS.hw hK1 l.length (by rw [hN]; omega) _ (by unfold capK; omega), ← hst]
  congr 1
  exact hX.cnt hR K start c 2147483647 hs (by omega) (by decide)
 -- in all
 have hb : ∀ d : Nat, 5000000000000 ≤ d → (el F l.length).length = min n (sN l (l.length * (n + 1) + 1) start d) := fun d hd => by
  rw [h.len hS hK1 (by rw [hN]; omega), ← hst]
  congr 1
  rw [← wC_all (W := 2147483649000000000) (by decide) (fun q hq s hs => by
   have h1 := (hS q hq s hs).1
   unfold kA kB at h1
   omega) (K + 1) l.length ((d : Int) * 2147483648 + 2147483647) (by omega)]
  exact hX.cnt hR K start d 2147483647 hs (by omega) (by decide)
 refine ⟨R, hC, fun hA => ?_, fun hE => ?_⟩
 ·refine hC.one ⟨?_, fun x hx => ?_, fun c => ?_⟩
  ·have h1 := h.key.ris l.length (by rw [hN]; omega)
   unfold RisL at h1 ⊢
   rw [List.pairwise_map]
   exact h1.imp fun {a b} hab => by unfold kA; omega
  ·obtain ⟨y, hy, rfl⟩ := List.mem_map.1 hx
   rcases h.okF l.length (by rw [hN]; omega) y hy with g | g
   ·rw [g, noK_parts.1]; decide
   ·exact g.1
  ·rw [cLe_map_kA]
   rcases Nat.le_total c 1000000000 with g | g
   ·exact ha c g
   ·have e1 : cLe (el F l.length) ((c : Int) * 2147483648 + 2147483647) = (el F l.length).length := cLe_all fun x hx => by have := hA x hx; unfold kA at this; omega
    have e2 : cLe (el F l.length) (((1000000000 : Nat) : Int) * 2147483648 + 2147483647) = (el F l.length).length := cLe_all fun x hx => by have := hA x hx; unfold kA at this; omega
    rw [ha _ (Nat.le_refl _)] at e2
    rw [e1]
    have e3 := hb (max c 5000000000000) (by omega)
    have e4 := sN_more l (l.length * (n + 1) + 1) start (c := 1000000000) (d := c) g
    have e5 := sN_more l (l.length * (n + 1) + 1) start (c := c) (d := max c 5000000000000) (by omega)
    omega
 ·refine Classical.byContradiction fun hno => ?_
  have h1 : cLe R ((1000000000 : Nat) : Int) = R.length := cLe_all fun x hx => by
   rcases Int.lt_or_le 1000000000 x with g | g
   ·exact absurd ⟨x, hx, g⟩ hno
   ·exact g
  obtain ⟨a, hab⟩ := cLe_big (l := R)
  have h2 := hab (max a 5000000000000 : Nat) (by omega)
  rw [hC.cnt] at h1 h2
  rw [← hb _ (by omega)] at h2
  have h3 := ha 1000000000 (Nat.le_refl _)
  have h4 : cLe (el F l.length) (((1000000000 : Nat) : Int) * 2147483648 + 2147483647) < (el F l.length).length := cLe_lt (by
   obtain ⟨x, hx, hc⟩ := hE
   exact ⟨x, hx, by unfold kA at hc; omega⟩)
  omega
end Go.Proofs.Ytfpibdaedfilaaa.Pl
