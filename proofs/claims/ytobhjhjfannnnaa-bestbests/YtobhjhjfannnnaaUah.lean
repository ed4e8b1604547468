/- The program: a heap of ways in memory, and its methods that only read or exchange. -/
import Derived.Test.YtobhjhjfannnnaaUac
import Derived.Test.YtobhjhjfannnnaaUag
import Derived.Deep.QuietTactic
import Derived.BigQuiet
import Derived.RegionTactic
import Derived.BigRegion
import Derived.Deep.MidRow
namespace Go.Proofs.Ytobhjhjfannnnaa.Bw
open Go.ChangeShapes Go.WideShapes Go.ChangeAt Go.RowKit
open Go.Proofs.Ytobhjhjfannnnaa.Pl Go.Proofs.Ytobhjhjfannnnaa.Wt
set_option linter.unusedVariables false
set_option linter.unusedSimpArgs false
theorem load_wait (B : Nat) (w : World) {v : Value} (h : w.cell? ⟨B, 0, none⟩ = some v) : (loadVar 118 ⟨B, 0, none⟩).run Try.prog w = .ok v w := by
 simp [loadVar, isAgg, underlying, Try.underlying118, h, Result.andThen]
theorem methW_push (B : Nat) (w : World) : Sem.run Try.prog (method 286 121 (.pointer (some ⟨B, 0, none⟩)) "Push") w = .ok (134, .pointer (some ⟨B, 0, none⟩)) w := by kernel_rfl
theorem methW_pop (B : Nat) (w : World) : Sem.run Try.prog (method 286 121 (.pointer (some ⟨B, 0, none⟩)) "Pop") w = .ok (133, .pointer (some ⟨B, 0, none⟩)) w := by kernel_rfl
theorem methW_len0 (B : Nat) (w : World) : Sem.run Try.prog (method 286 121 (.pointer (some ⟨B, 0, none⟩)) "Len") w = Sem.run Try.prog (do let v ← loadVar 118 ⟨B, 0, none⟩; pure (76, v)) w := by kernel_rfl
theorem methW_less0 (B : Nat) (w : World) : Sem.run Try.prog (method 286 121 (.pointer (some ⟨B, 0, none⟩)) "Less") w = Sem.run Try.prog (do let v ← loadVar 118 ⟨B, 0, none⟩; pure (130, v)) w := by kernel_rfl
theorem methW_swap0 (B : Nat) (w : World) : Sem.run Try.prog (method 286 121 (.pointer (some ⟨B, 0, none⟩)) "Swap") w = Sem.run Try.prog (do let v ← loadVar 118 ⟨B, 0, none⟩; pure (131, v)) w := by kernel_rfl
theorem methW_len {B : Nat} {w : World} {v : Value} (h : w.cell? ⟨B, 0, none⟩ = some v) : Sem.run Try.prog (method 286 121 (.pointer (some ⟨B, 0, none⟩)) "Len") w = .ok (76, v) w := by
 rw [methW_len0]; simp [load_wait B w h, Sem.run_bind]
theorem methW_less {B : Nat} {w : World} {v : Value} (h : w.cell? ⟨B, 0, none⟩ = some v) : Sem.run Try.prog (method 286 121 (.pointer (some ⟨B, 0, none⟩)) "Less") w = .ok (130, v) w := by
 rw [methW_less0]; simp [load_wait B w h, Sem.run_bind]
theorem methW_swap {B : Nat} {w : World} {v : Value} (h : w.cell? ⟨B, 0, none⟩ = some v) : Sem.run Try.prog (method 286 121 (.pointer (some ⟨B, 0, none⟩)) "Swap") w = .ok (131, v) w := by
 rw [methW_swap0]; simp [load_wait B w h, Sem.run_bind]
def encW (a : Ar) : List Value := [.int .i64 a.1, .int .i64 (kA a.2.2.2), .int .i64 (kB a.2.2.2)]
theorem encW_len (a : Ar) : (encW a).length = 3 := rfl
theorem encW_one (a : Ar) : ∀ u ∈ encW a, u.oneCell' = true := by
 intro u hu
 simp [encW] at hu
 rcases hu with rfl | rfl | rfl <;> rfl
def ThrW (w : World) (b o : Nat) (a : Ar) : Prop := w.cell? ⟨b, o, none⟩ = some (.int .i64 a.1) ∧ w.cell? ⟨b, o + 1, none⟩ = some (.int .i64 (kA a.2.2.2)) ∧ w.cell? ⟨b, o + 2, none⟩ = some (.int .i64 (kB a.2.2.2))
theorem own_thr {w : World} {base : Nat} {e : TypeId} {g n cap j : Nat} {ws : List Ar} (h : w.ownsRow base e 3 (.slice (some ⟨g, 0, none⟩) n cap) n (ws.flatMap encW)) (hj : j < ws.length) : ThrW w g (j * 3) (el ws j) := by
 have hc : ∀ i u, i < 3 → (encW (el ws j))[i]? = some u → w.cell? ⟨g, j * 3 + i, none⟩ = some u := fun i u hi hu => by
  have := h.cells (g := g) rfl (j * 3 + i) u ((flat_at encW_len ws j hj i hi).trans hu)
  rw [Addr.add_lit, Nat.zero_add] at this
  exact this
 exact ⟨hc 0 _ (by omega) rfl, hc 1 _ (by omega) rfl, hc 2 _ (by omega) rfl⟩
theorem own_fzW {w : World} {base : Nat} {e : TypeId} {s g n cap : Nat} {ws : List Value} (h : w.ownsRow base e s (.slice (some ⟨g, 0, none⟩) n cap) n ws) (j : Nat) : w.frozen? ⟨g, j, none⟩ = false := by
 rcases h.2 with ⟨hv, hn0⟩ | ⟨g', cap', cur, hv, hbg, hg, _⟩
 ·simp at hv
 ·simp only [Value.slice.injEq, Option.some.injEq, Addr.mk.injEq, and_true, true_and] at hv
  obtain ⟨rfl, rfl⟩ := hv
  exact Blk.fz (t := e) hg j
theorem own_someW {w : World} {base : Nat} {e : TypeId} {s : Nat} {v : Value} {n : Nat} {ws : List Value} (h : w.ownsRow base e s v n ws) (hn : 0 < n) : ∃ g cap, v = .slice (some ⟨g, 0, none⟩) n cap ∧ g < w.heap.size ∧ n ≤ cap ∧ base ≤ g := by
 rcases h.2 with ⟨hv, hn0⟩ | ⟨g, cap, cur, rfl, hbg, hg, hnc, _⟩
 ·omega
 ·exact ⟨g, cap, rfl, Blk.lt (t := e) hg, hnc, hbg⟩
theorem own_slW {w : World} {base : Nat} {e : TypeId} {s : Nat} {v : Value} {n : Nat} {ws : List Value} (h : w.ownsRow base e s v n ws) : ∃ a cap, v = .slice a n cap := by
 rcases h.2 with ⟨hv, hn0⟩ | ⟨g, cap, cur, rfl, _⟩
 ·subst hn0; exact ⟨_, _, hv⟩
 ·exact ⟨_, _, rfl⟩
theorem own_thereW {w : World} {base : Nat} {e : TypeId} {g n cap j : Nat} {ws : List Ar} (h : w.ownsRow base e 3 (.slice (some ⟨g, 0, none⟩) n cap) n (ws.flatMap encW)) (hj : j < ws.length) : w.there g (j * 3) 3 := by
 obtain ⟨h0, h1, h2⟩ := own_thr h hj
 intro i hi
 refine ⟨?_, own_fzW h _⟩
 have : i = 0 ∨ i = 1 ∨ i = 2 := by omega
 rcases this with rfl | rfl | rfl
 ·rw [Nat.add_zero, h0]; rfl
 ·rw [h1]; rfl
 ·rw [h2]; rfl
theorem set_wayL {xs : List Ar} {k : Nat} (hk : k < xs.length) (p : Ar) : (((xs.flatMap encW).set (k * 3) (.int .i64 p.1)).set (k * 3 + 1) (.int .i64 (kA p.2.2.2))).set (k * 3 + 2) (.int .i64 (kB p.2.2.2)) = (xs.set k p).flatMap encW := by
  induction xs generalizing k with
  | nil => simp at hk
  | cons x xs ih =>
    cases k with
    | zero => simp [encW]
    | succ k =>
      have h4 := ih (k := k) (by simpa using hk)
      rw [List.set_cons_succ, List.flatMap_cons, List.flatMap_cons, ← h4]
      have e : ∀ (l : List Value) (i : Nat) (v : Value), (encW x ++ l).set ((k + 1) * 3 + i) v = encW x ++ l.set (k * 3 + i) v := fun l i v => by
        rw [List.set_append_right _ _ (by rw [encW_len]; omega), encW_len]
        congr 2
        omega
      have e0 := e (xs.flatMap encW) 0 (.int .i64 p.1)
      have e1 : (encW x ++ List.flatMap encW xs).set ((k + 1) * 3) (Value.int IntKind.i64 p.1) = encW x ++ (List.flatMap encW xs).set (k * 3) (Value.int IntKind.i64 p.1) := e0
      rw [e1, e, e]
theorem own_setW {w : World} {base : Nat} {e : TypeId} {g n cap j : Nat} {ws : List Ar} (h : w.ownsRow base e 3 (.slice (some ⟨g, 0, none⟩) n cap) n (ws.flatMap encW)) (hj : j < ws.length) (x : Ar) :
  (w.setCells g (j * 3) (encW x)).ownsRow base e 3 (.slice (some ⟨g, 0, none⟩) n cap) n ((ws.set j x).flatMap encW) := by
 have hlen := h.1
 rw [flat_length encW_len] at hlen
 rcases h.2 with ⟨hv, hn0⟩ | ⟨g', cap', cur, hv, hbg, hg, hnc, hcm, hcs, htake⟩
 ·simp at hv
 ·simp only [Value.slice.injEq, Option.some.injEq, Addr.mk.injEq, and_true, true_and] at hv
  obtain ⟨rfl, rfl⟩ := hv
  have hB : Blk w g cur e := hg
  refine ⟨by rw [flat_length encW_len, List.length_set]; exact hlen, .inr ⟨g, cap, ((cur.setIfInBounds (j * 3) (.int .i64 x.1)).setIfInBounds (j * 3 + 1) (.int .i64 (kA x.2.2.2))).setIfInBounds (j * 3 + 2) (.int .i64 (kB x.2.2.2)), rfl, hbg, ?_, hnc, hcm, by simpa using hcs, ?_⟩⟩
  ·have := ((hB.set (j * 3) (.int .i64 x.1)).set (j * 3 + 1) (.int .i64 (kA x.2.2.2))).set (j * 3 + 2) (.int .i64 (kB x.2.2.2))
   exact this
  ·rw [Array.toList_setIfInBounds, Array.toList_setIfInBounds, Array.toList_setIfInBounds, List.take_set, List.take_set, List.take_set, htake]
   exact set_wayL hj x
theorem gSetW (w : World) (g o : Nat) (x : Ar) : w.grownBy (w.setCells g o (encW x)) (some g) :=
 gTrans (gSet w g o (.int .i64 x.1)) (gTrans (gSet _ g (o + 1) (.int .i64 (kA x.2.2.2))) (gSet _ g (o + 2) (.int .i64 (kB x.2.2.2))))
set_option maxRecDepth 100000 in
theorem wLen_any (a : Option Addr) (n cap : Nat) (w : World) :
  Calls Try.prog 76 #[.slice a n cap] w fun e w' => e = .returned (.int .i64 (n : Int)) ∧ w' = w := by
 go_enter Try.func76, Try.ntmps76
 go_wp2
 go_ret
 exact ⟨rfl, rfl⟩
def HeldLs (g i j : Nat) (a b c d : Int) (w : World) : Prop := w.cell? ⟨g, i * 3 + 1, none⟩ = some (.int .i64 a) ∧ w.cell? ⟨g, i * 3 + 2, none⟩ = some (.int .i64 b) ∧ w.cell? ⟨g, j * 3 + 1, none⟩ = some (.int .i64 c) ∧ w.cell? ⟨g, j * 3 + 2, none⟩ = some (.int .i64 d)
set_option maxRecDepth 100000 in
set_option maxHeartbeats 2000000 in
theorem wLess_any (g n cap : Nat) (w : World) (x y : Int) (i j : Nat) (hi : i < n) (hj : j < n) (hn : n ≤ 10000000) (hg : g < w.heap.size) (ci : w.cell? ⟨g, i * 3 + 1, none⟩ = some (.int .i64 (kA x)) ∧ w.cell? ⟨g, i * 3 + 2, none⟩ = some (.int .i64 (kB x))) (cj : w.cell? ⟨g, j * 3 + 1, none⟩ = some (.int .i64 (kA y)) ∧ w.cell? ⟨g, j * 3 + 2, none⟩ = some (.int .i64 (kB y))) :
  Calls Try.prog 130 #[.slice (some ⟨g, 0, none⟩) n cap, .int .i64 (i : Int), .int .i64 (j : Int)] w fun e w' => e = .returned (.bool (decide (x < y))) ∧ Below w.heap.size w w' := by
 obtain ⟨a0, a1⟩ := ci
 obtain ⟨b0, b1⟩ := cj
 have HL : Hid (∀ W, Calls Try.prog 132 #[.agg #[.int .i64 (kA x), .int .i64 (kB x)], .agg #[.int .i64 (kA y), .int .i64 (kB y)]] W fun e w' => e = .returned (.bool (decide (x < y))) ∧ Below W.heap.size W w') := fun W => lessK_any x y W
 have k1 : (0 : Int) ≤ (i : Int) := by omega
 have k2 : (i : Int) < (n : Int) := by omega
 have k3 : (0 : Int) ≤ (j : Int) := by omega
 have k4 : (j : Int) < (n : Int) := by omega
 have HS : HeldLs g i j (kA x) (kB x) (kA y) (kB y) w.drew := ⟨a0, a1, b0, b1⟩
 have HLT : Hid (∀ w1, Below w.heap.size w.drew w1 → HeldLs g i j (kA x) (kB x) (kA y) (kB y) w1) := fun w1 hb => ⟨(hb.cell hg).trans a0, (hb.cell hg).trans a1, (hb.cell hg).trans b0, (hb.cell hg).trans b1⟩
 generalize decide (x < y) = bx at *
 generalize kA x = xa at *
 generalize kB x = xb at *
 generalize kA y = ya at *
 generalize kB y = yb at *
 clear a0 a1 b0 b1
 go_enter Try.func130, Try.ntmps130
 go_wp2
 refine region_anyL (HeldLs g i j xa xb ya yb) 1000 (by kernel_rfl) ?_
 refine anyL_tk (i := 0) (v := ?v0_1) aZ0 (by kernel_rfl) ?y0_1 HS ?r0_1
 case y0_1 => intro wx hx; obtain ⟨h0, h1, h2, h3⟩ := hx; go_simp; try (with_reducible rfl)
 simp only [Act.put, List.setIfInBounds_toArray, List.set_cons_zero, List.set_cons_succ]
 refine anyL_tk (i := 1) (v := ?v1_2) aZ1 (by kernel_rfl) ?y1_2 HS ?r1_2
 case y1_2 => intro wx hx; obtain ⟨h0, h1, h2, h3⟩ := hx; go_simp; try (with_reducible rfl)
 simp only [Act.put, List.setIfInBounds_toArray, List.set_cons_zero, List.set_cons_succ]
 refine anyL_tk (i := 2) (v := ?v2_3) aZ2 (by kernel_rfl) ?y2_3 HS ?r2_3
 case y2_3 => intro wx hx; obtain ⟨h0, h1, h2, h3⟩ := hx; go_simp; try (with_reducible rfl)
 simp only [Act.put, List.setIfInBounds_toArray, List.set_cons_zero, List.set_cons_succ]
 refine anyL_tk (i := 3) (v := ?v3_4) aZ3 (by kernel_rfl) ?y3_4 HS ?r3_4
 case y3_4 => intro wx hx; obtain ⟨h0, h1, h2, h3⟩ := hx; go_simp; try (with_reducible rfl)
 simp only [Act.put, List.setIfInBounds_toArray, List.set_cons_zero, List.set_cons_succ]
 refine anyL_tk (i := 4) (v := ?v4_5) aZ4 (by kernel_rfl) ?y4_5 HS ?r4_5
 case y4_5 => intro wx hx; obtain ⟨h0, h1, h2, h3⟩ := hx; go_simp; try (with_reducible rfl)
 simp only [Act.put, List.setIfInBounds_toArray, List.set_cons_zero, List.set_cons_succ]
 refine anyL_tk (i := 5) (v := ?v5_6) aZ5 (by kernel_rfl) ?y5_6 HS ?r5_6
 case y5_6 => intro wx hx; obtain ⟨h0, h1, h2, h3⟩ := hx; go_simp; try (with_reducible rfl)
 simp only [Act.put, List.setIfInBounds_toArray, List.set_cons_zero, List.set_cons_succ]
 refine anyL_tk (i := 6) (v := ?v6_7) aZ6 (by kernel_rfl) ?y6_7 HS ?r6_7
 case y6_7 => intro wx hx; obtain ⟨h0, h1, h2, h3⟩ := hx; go_simp; try (with_reducible rfl)
 simp only [Act.put, List.setIfInBounds_toArray, List.set_cons_zero, List.set_cons_succ]
 refine anyL_tk (i := 7) (v := ?v7_8) aZ7 (by kernel_rfl) ?y7_8 HS ?r7_8
 case y7_8 => intro wx hx; obtain ⟨h0, h1, h2, h3⟩ := hx; go_simp; try (with_reducible rfl)
 simp only [Act.put, List.setIfInBounds_toArray, List.set_cons_zero, List.set_cons_succ]
 refine anyL_tk (i := 8) (v := ?v8_9) aZ8 (by kernel_rfl) ?y8_9 HS ?r8_9
 case y8_9 => intro wx hx; obtain ⟨h0, h1, h2, h3⟩ := hx; go_simp; try (with_reducible rfl)
 simp only [Act.put, List.setIfInBounds_toArray, List.set_cons_zero, List.set_cons_succ]
 refine anyL_tk (i := 9) (v := ?v9_10) aZ9 (by kernel_rfl) ?y9_10 HS ?r9_10
 case y9_10 => intro wx hx; obtain ⟨h0, h1, h2, h3⟩ := hx; go_simp; try (with_reducible rfl)
 simp only [Act.put, List.setIfInBounds_toArray, List.set_cons_zero, List.set_cons_succ]
 refine anyL_one (i := 10) aZ10 (by kernel_rfl) rfl (fun K hK => ?_)
 go_simp
 with_reducible refine (HL.out _).mono ?_
 rintro e w1 ⟨rfl, hb1⟩
 have HB1 : Hid (Below w.heap.size w w1) := (Below.refl w.heap.size w).drew.trans hb1
 have HS1 := HLT.out w1 hb1
 refine hK _ _ (.inr HS1) ?_
 try simp only [Act.put, List.setIfInBounds_toArray, List.set_cons_zero, List.set_cons_succ]
 clear hb1 HS HL HLT
 refine anyL_one (i := 11) aZ11 (by kernel_rfl) rfl (fun K hK => ?_)
 go_simp
 refine hK _ _ (.inr HS1) (anyL_done (by kernel_rfl) (NoPanic.normal ?_))
 try simp only [Act.put, List.setIfInBounds_toArray, List.set_cons_zero, List.set_cons_succ]
 go_wp2
 go_ret
 exact ⟨rfl, HB1.out⟩
theorem infoWay : (Try.prog.info? 116).map (fun i => (i.zero, i.size, i.bytes)) = some (some (.agg #[.int .i64 0, .int .i64 0, .int .i64 0]), 3, 24) := by kernel_rfl
theorem infoWaySize : (Try.prog.info? 116).map (·.size) = some 3 := by kernel_rfl
def HeldTw (_ : World) : Prop := True
set_option maxRecDepth 100000 in
set_option maxHeartbeats 2000000 in
theorem wSwap_any (g n cap : Nat) (w : World) (x y : Ar) (i j : Nat) (hi : i < n) (hj : j < n) (hn : n ≤ 10000000) (ci : ThrW w g (i * 3) x) (cj : ThrW w g (j * 3) y) (fi : w.there g (i * 3) 3) (fj : w.there g (j * 3) 3) :
  Calls Try.prog 131 #[.slice (some ⟨g, 0, none⟩) n cap, .int .i64 (i : Int), .int .i64 (j : Int)] w fun e w' => e = .returned (.tuple #[]) ∧ w' = (w.drew.setCells g (i * 3) (encW y)).setCells g (j * 3) (encW x) := by
 have F1 : Hid (w.drew.there g (i * 3) 3) := fi
 have F2 : Hid ((w.drew.setCells g (i * 3) (encW y)).there g (j * 3) 3) := World.there_setCells (w := w.drew) fj g (i * 3) (encW y)
 obtain ⟨W2, hW2⟩ : ∃ W2, W2 = (w.drew.setCells g (i * 3) (encW y)).setCells g (j * 3) (encW x) := ⟨_, rfl⟩
 have HW2 : Hid (W2 = (w.drew.setCells g (i * 3) (encW y)).setCells g (j * 3) (encW x)) := hW2
 rw [← hW2]
 clear hW2
 obtain ⟨x0, x1, x2, x3⟩ := x
 obtain ⟨y0, y1, y2, y3⟩ := y
 obtain ⟨a0, a3, a4⟩ := ci
 obtain ⟨b0, b3, b4⟩ := cj
 simp only at a0 a3 a4 b0 b3 b4
 have k1 : (0 : Int) ≤ (i : Int) := by omega
 have k2 : (i : Int) < (n : Int) := by omega
 have k3 : (0 : Int) ≤ (j : Int) := by omega
 have k4 : (j : Int) < (n : Int) := by omega
 clear fi fj
 have HS : HeldTw w.drew := trivial
 go_enter Try.func131, Try.ntmps131
 go_wp2
 refine region_anyL HeldTw 15 (by kernel_rfl) ?_
 refine anyL_tk (i := 0) (v := ?v0_11) aZ0 (by kernel_rfl) ?y0_11 HS ?r0_11
 case y0_11 => intro wx hx; obtain h1 := hx; go_simp; try (with_reducible rfl)
 simp only [Act.put, List.setIfInBounds_toArray, List.set_cons_zero, List.set_cons_succ]
 refine anyL_tk (i := 1) (v := ?v1_12) aZ1 (by kernel_rfl) ?y1_12 HS ?r1_12
 case y1_12 => intro wx hx; obtain h1 := hx; go_simp; try (with_reducible rfl)
 simp only [Act.put, List.setIfInBounds_toArray, List.set_cons_zero, List.set_cons_succ]
 refine anyL_tk (i := 2) (v := ?v2_13) aZ2 (by kernel_rfl) ?y2_13 HS ?r2_13
 case y2_13 => intro wx hx; obtain h1 := hx; go_simp; try (with_reducible rfl)
 simp only [Act.put, List.setIfInBounds_toArray, List.set_cons_zero, List.set_cons_succ]
 refine anyL_tk (i := 3) (v := ?v3_14) aZ3 (by kernel_rfl) ?y3_14 HS ?r3_14
 case y3_14 => intro wx hx; obtain h1 := hx; go_simp; try (with_reducible rfl)
 simp only [Act.put, List.setIfInBounds_toArray, List.set_cons_zero, List.set_cons_succ]
 refine anyL_tk (i := 4) (v := ?v4_15) aZ4 (by kernel_rfl) ?y4_15 HS ?r4_15
 case y4_15 => intro wx hx; obtain h1 := hx; go_simp; try (with_reducible rfl)
 simp only [Act.put, List.setIfInBounds_toArray, List.set_cons_zero, List.set_cons_succ]
 refine anyL_tk (i := 5) (v := ?v5_16) aZ5 (by kernel_rfl) ?y5_16 HS ?r5_16
 case y5_16 => intro wx hx; obtain h1 := hx; go_simp; try (with_reducible rfl)
 simp only [Act.put, List.setIfInBounds_toArray, List.set_cons_zero, List.set_cons_succ]
 refine anyL_tk (i := 6) (v := ?v6_17) aZ6 (by kernel_rfl) ?y6_17 HS ?r6_17
 case y6_17 => intro wx hx; obtain h1 := hx; go_simp; try (with_reducible rfl)
 simp only [Act.put, List.setIfInBounds_toArray, List.set_cons_zero, List.set_cons_succ]
 refine anyL_tk (i := 8) (v := ?v8_18) aZ8 (by kernel_rfl) ?y8_18 HS ?r8_18
 case y8_18 => intro wx hx; obtain h1 := hx; go_simp; try (with_reducible rfl)
 simp only [Act.put, List.setIfInBounds_toArray, List.set_cons_zero, List.set_cons_succ]
 refine anyL_tk (i := 9) (v := ?v9_19) aZ9 (by kernel_rfl) ?y9_19 HS ?r9_19
 case y9_19 => intro wx hx; obtain h1 := hx; go_simp; try (with_reducible rfl)
 simp only [Act.put, List.setIfInBounds_toArray, List.set_cons_zero, List.set_cons_succ]
 refine anyL_tk (i := 10) (v := ?v10_20) aZ10 (by kernel_rfl) ?y10_20 HS ?r10_20
 case y10_20 => intro wx hx; obtain h1 := hx; go_simp; try (with_reducible rfl)
 simp only [Act.put, List.setIfInBounds_toArray, List.set_cons_zero, List.set_cons_succ]
 refine anyL_br (rs := [7, 11]) (by kernel_rfl) (by simp) (List.forall_mem_cons.2 ⟨⟨_, (atS (atS (atS (atS (atS (atS (atS at0))))))), rfl, fun K hK => ?_⟩, List.forall_mem_cons.2 ⟨⟨_, (atS (atS (atS (atS (atS (atS (atS (atS (atS (atS (atS at0))))))))))), rfl, fun K hK => ?_⟩, fun _ h => absurd h (by simp)⟩⟩)
 ·go_simp
  refine hK _ _ (.inr trivial) ?_
  try simp only [Act.put, List.setIfInBounds_toArray, List.set_cons_zero, List.set_cons_succ]
  refine anyL_one (i := 11) aZ11 (by kernel_rfl) rfl (fun K hK => ?_)
  go_simp
  refine hK _ _ (.inr trivial) ?_
  try simp only [Act.put, List.setIfInBounds_toArray, List.set_cons_zero, List.set_cons_succ]
  refine anyL_tk (i := 12) (v := ?v12_21) aZ12 (by kernel_rfl) ?y12_21 HS ?r12_21
  case y12_21 => intro wx hx; obtain h1 := hx; go_simp; try (with_reducible rfl)
  simp only [Act.put, List.setIfInBounds_toArray, List.set_cons_zero, List.set_cons_succ]
  refine anyL_one (i := 13) aZ13 (by kernel_rfl) rfl (fun K hK => ?_)
  refine wp_store_mid 116 (.tmp 18) (.tmp 13) rfl g (i * 3) #[.int .i64 y0, .int .i64 (kA y3), .int .i64 (kB y3)] rfl rfl F1.out infoWaySize (by simp [Value.oneCell']) ?_
  refine hK _ _ (.inr trivial) ?_
  try simp only [Act.put, List.setIfInBounds_toArray, List.set_cons_zero, List.set_cons_succ]
  refine anyL_tk (i := 14) (v := ?v14_22) aZ14 (by kernel_rfl) ?y14_22 trivial ?r14_22
  case y14_22 => intro wx hx; obtain h1 := hx; go_simp; try (with_reducible rfl)
  simp only [Act.put, List.setIfInBounds_toArray, List.set_cons_zero, List.set_cons_succ]
  refine anyL_one (i := 15) aZ15 (by kernel_rfl) rfl (fun K hK => ?_)
  refine wp_store_mid 116 (.tmp 19) (.tmp 17) rfl g (j * 3) #[.int .i64 x0, .int .i64 (kA x3), .int .i64 (kB x3)] rfl rfl F2.out infoWaySize (by simp [Value.oneCell']) ?_
  rw [show (World.setCells (World.setCells w.drew g (i * 3) (#[Value.int .i64 y0, .int .i64 (kA y3), .int .i64 (kB y3)] : Array Value).toList) g (j * 3) (#[Value.int .i64 x0, .int .i64 (kA x3), .int .i64 (kB x3)] : Array Value).toList) = W2 from HW2.out.symm]
  refine hK _ _ (.inl rfl) (anyL_done (by kernel_rfl) (NoPanic.normal ?_))
  clear a0 a3 a4 b0 b3 b4 F1 F2 HW2 hK
  go_end0
  exact ⟨rfl, rfl⟩
 ·go_simp
  refine hK _ _ (.inr trivial) ?_
  try simp only [Act.put, List.setIfInBounds_toArray, List.set_cons_zero, List.set_cons_succ]
  refine anyL_one (i := 7) aZ7 (by kernel_rfl) rfl (fun K hK => ?_)
  go_simp
  refine hK _ _ (.inr trivial) ?_
  try simp only [Act.put, List.setIfInBounds_toArray, List.set_cons_zero, List.set_cons_succ]
  refine anyL_tk (i := 12) (v := ?v12_23) aZ12 (by kernel_rfl) ?y12_23 HS ?r12_23
  case y12_23 => intro wx hx; obtain h1 := hx; go_simp; try (with_reducible rfl)
  simp only [Act.put, List.setIfInBounds_toArray, List.set_cons_zero, List.set_cons_succ]
  refine anyL_one (i := 13) aZ13 (by kernel_rfl) rfl (fun K hK => ?_)
  refine wp_store_mid 116 (.tmp 18) (.tmp 13) rfl g (i * 3) #[.int .i64 y0, .int .i64 (kA y3), .int .i64 (kB y3)] rfl rfl F1.out infoWaySize (by simp [Value.oneCell']) ?_
  refine hK _ _ (.inr trivial) ?_
  try simp only [Act.put, List.setIfInBounds_toArray, List.set_cons_zero, List.set_cons_succ]
  refine anyL_tk (i := 14) (v := ?v14_24) aZ14 (by kernel_rfl) ?y14_24 trivial ?r14_24
  case y14_24 => intro wx hx; obtain h1 := hx; go_simp; try (with_reducible rfl)
  simp only [Act.put, List.setIfInBounds_toArray, List.set_cons_zero, List.set_cons_succ]
  refine anyL_one (i := 15) aZ15 (by kernel_rfl) rfl (fun K hK => ?_)
  refine wp_store_mid 116 (.tmp 19) (.tmp 17) rfl g (j * 3) #[.int .i64 x0, .int .i64 (kA x3), .int .i64 (kB x3)] rfl rfl F2.out infoWaySize (by simp [Value.oneCell']) ?_
  rw [show (World.setCells (World.setCells w.drew g (i * 3) (#[Value.int .i64 y0, .int .i64 (kA y3), .int .i64 (kB y3)] : Array Value).toList) g (j * 3) (#[Value.int .i64 x0, .int .i64 (kA x3), .int .i64 (kB x3)] : Array Value).toList) = W2 from HW2.out.symm]
  refine hK _ _ (.inl rfl) (anyL_done (by kernel_rfl) (NoPanic.normal ?_))
  clear a0 a3 a4 b0 b3 b4 F1 F2 HW2 hK
  go_end0
  exact ⟨rfl, rfl⟩
end Go.Proofs.Ytobhjhjfannnnaa.Bw
namespace Go.Proofs.Ytobhjhjfannnnaa.Wt
open Go.ChangeShapes Go.WideShapes Go.ChangeAt Go.RowKit
open Go.Proofs.Ytobhjhjfannnnaa.Pl
set_option linter.unusedVariables false
set_option linter.unusedSimpArgs false
structure Turn2 (w w' : World) (b : Nat) (r : Option Nat) : Prop where
 os : w'.os = w.os
 tape : w'.tape = w.tape
 output : w'.output = w.output
 size : w.heap.size ≤ w'.heap.size
 block : ∀ k, k < w.heap.size → k ≠ b → some k ≠ r → w'.heap[k]? = w.heap[k]?
theorem Turn2.grown {w w' : World} {r : Option Nat} (h : w.grownBy w' r) (b : Nat) : Turn2 w w' b r := ⟨h.os, h.tape, h.output, h.size, fun k hk _ hne => h.block k hk hne⟩
theorem Turn2.set {w w' : World} {b : Nat} {r : Option Nat} (h : Turn2 w w' b r) (o : Nat) (v : Value) : Turn2 w (w'.setCell ⟨b, o, none⟩ v) b r :=
 ⟨h.os, h.tape, h.output, by simp [World.setCell]; exact h.size, fun k hk hb hne => (Below.heap_setCell w' _ _ k hb).trans (h.block k hk hb hne)⟩
theorem Turn2.trans {w w1 w2 : World} {b : Nat} {r r1 : Option Nat} (h : Turn2 w w1 b r) (k : Turn2 w1 w2 b r1) (hr : r1 = r ∨ ∃ c, r1 = some c ∧ w.heap.size ≤ c) : Turn2 w w2 b r := by
 refine ⟨k.os.trans h.os, k.tape.trans h.tape, k.output.trans h.output, Nat.le_trans h.size k.size, fun i hi hb hne => ?_⟩
 refine (k.block i (Nat.lt_of_lt_of_le hi h.size) hb ?_).trans (h.block i hi hb hne)
 rcases hr with rfl | ⟨c, rfl, hc⟩
 ·exact hne
 ·intro e; simp at e; omega
theorem Turn2.blk {w w' : World} {b : Nat} {r : Option Nat} (h : Turn2 w w' b r) {k : Nat} {cs : Array Value} {t : TypeId} (hk : Blk w k cs t) (hb : k ≠ b) (hr : some k ≠ r) : Blk w' k cs t := hk.keep (h.block k hk.lt hb hr)
theorem Turn2.row {w w' : World} {b : Nat} {r : Option Nat} (h : Turn2 w w' b r) {base : Nat} {e : TypeId} {s : Nat} {v : Value} {n : Nat} {xs : List Value} (ho : w.ownsRow base e s v n xs) (hb : v.ownBlock ≠ some b) (hr : v.ownBlock = none ∨ v.ownBlock ≠ r) : w'.ownsRow base e s v n xs := by
 refine ⟨ho.1, ?_⟩
 rcases ho.2 with hn | ⟨g, cap, cur, rfl, hbg, hgg, rest⟩
 ·exact .inl hn
 ·refine .inr ⟨g, cap, cur, rfl, hbg, ?_, rest⟩
  rw [h.block g (Array.getElem?_eq_some_iff.1 hgg).1 (by simpa [Value.ownBlock] using hb) (by simpa [Value.ownBlock] using hr)]
  exact hgg
theorem Turn2.below {w w' : World} {b : Nat} {r : Option Nat} (h : Turn2 w w' b r) {base : Nat} (hb : base ≤ b) (hr : ∀ k, r = some k → base ≤ k) (hs : base ≤ w.heap.size) : Below base w w' :=
 ⟨h.os, h.tape, h.output, h.size, fun k hk => h.block k (by omega) (by omega) (fun e => by have := hr k e.symm; omega)⟩
theorem belowDN (w : World) (q : Nat) : Below w.heap.size w (w.drewN q) := ⟨rfl, rfl, rfl, Nat.le_refl _, fun _ _ => rfl⟩
end Go.Proofs.Ytobhjhjfannnnaa.Wt
