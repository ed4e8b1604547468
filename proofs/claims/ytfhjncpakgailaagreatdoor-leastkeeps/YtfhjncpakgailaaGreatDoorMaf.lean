/- The program: a heap of ways in memory, and its methods that only read or exchange. -/
import Derived.Test.YtfhjncpakgailaaGreatDoorMad
import Derived.Test.YtfhjncpakgailaaGreatDoorMab
import Derived.Test.YtfhjncpakgailaaGreatDoorMae
import Derived.Deep.QuietTactic
import Derived.BigQuiet
import Derived.RegionTactic
import Derived.BigRegion
import Derived.Deep.MidRow
namespace Go.Proofs.YtfhjncpakgailaaGreatDoor.Wt
open Go.ChangeShapes Go.WideShapes Go.ChangeAt Go.RowKit
open Go.Proofs.YtfhjncpakgailaaGreatDoor.Pl
set_option linter.unusedVariables false
set_option linter.unusedSimpArgs false
theorem load_wait (B : Nat) (w : World) {v : Value} (h : w.cell? ⟨B, 0, none⟩ = some v) : (loadVar 219 ⟨B, 0, none⟩).run Tryz.prog w = .ok v w := by
 simp [loadVar, isAgg, underlying, Tryz.underlying219, h, Result.andThen]
theorem methW_push (B : Nat) (w : World) : Sem.run Tryz.prog (method 370 220 (.pointer (some ⟨B, 0, none⟩)) "Push") w = .ok (231, .pointer (some ⟨B, 0, none⟩)) w := by kernel_rfl
theorem methW_pop (B : Nat) (w : World) : Sem.run Tryz.prog (method 370 220 (.pointer (some ⟨B, 0, none⟩)) "Pop") w = .ok (230, .pointer (some ⟨B, 0, none⟩)) w := by kernel_rfl
theorem methW_len0 (B : Nat) (w : World) : Sem.run Tryz.prog (method 370 220 (.pointer (some ⟨B, 0, none⟩)) "Len") w = Sem.run Tryz.prog (do let v ← loadVar 219 ⟨B, 0, none⟩; pure (169, v)) w := by kernel_rfl
theorem methW_less0 (B : Nat) (w : World) : Sem.run Tryz.prog (method 370 220 (.pointer (some ⟨B, 0, none⟩)) "Less") w = Sem.run Tryz.prog (do let v ← loadVar 219 ⟨B, 0, none⟩; pure (228, v)) w := by kernel_rfl
theorem methW_swap0 (B : Nat) (w : World) : Sem.run Tryz.prog (method 370 220 (.pointer (some ⟨B, 0, none⟩)) "Swap") w = Sem.run Tryz.prog (do let v ← loadVar 219 ⟨B, 0, none⟩; pure (229, v)) w := by kernel_rfl
theorem methW_len {B : Nat} {w : World} {v : Value} (h : w.cell? ⟨B, 0, none⟩ = some v) : Sem.run Tryz.prog (method 370 220 (.pointer (some ⟨B, 0, none⟩)) "Len") w = .ok (169, v) w := by
 rw [methW_len0]; simp [load_wait B w h, Sem.run_bind]
theorem methW_less {B : Nat} {w : World} {v : Value} (h : w.cell? ⟨B, 0, none⟩ = some v) : Sem.run Tryz.prog (method 370 220 (.pointer (some ⟨B, 0, none⟩)) "Less") w = .ok (228, v) w := by
 rw [methW_less0]; simp [load_wait B w h, Sem.run_bind]
theorem methW_swap {B : Nat} {w : World} {v : Value} (h : w.cell? ⟨B, 0, none⟩ = some v) : Sem.run Tryz.prog (method 370 220 (.pointer (some ⟨B, 0, none⟩)) "Swap") w = .ok (229, v) w := by
 rw [methW_swap0]; simp [load_wait B w h, Sem.run_bind]
def FourW (w : World) (b o : Nat) (a : Ar) : Prop := w.cell? ⟨b, o, none⟩ = some (.int .i64 a.1) ∧ w.cell? ⟨b, o + 1, none⟩ = some (.int .i64 a.2.1) ∧ w.cell? ⟨b, o + 2, none⟩ = some (.int .i64 a.2.2.1) ∧ w.cell? ⟨b, o + 3, none⟩ = some (.int .i64 a.2.2.2)
theorem own_four {w : World} {base : Nat} {e : TypeId} {g n cap j : Nat} {ws : List Ar} (h : w.ownsRow base e 4 (.slice (some ⟨g, 0, none⟩) n cap) n (ws.flatMap encA)) (hj : j < ws.length) : FourW w g (j * 4) (el ws j) := by
 have hc : ∀ i u, i < 4 → (encA (el ws j))[i]? = some u → w.cell? ⟨g, j * 4 + i, none⟩ = some u := fun i u hi hu => by
  have := h.cells (g := g) rfl (j * 4 + i) u ((flat_at encA_len ws j hj i hi).trans hu)
  rw [Addr.add_lit, Nat.zero_add] at this
  exact this
 exact ⟨hc 0 _ (by omega) rfl, hc 1 _ (by omega) rfl, hc 2 _ (by omega) rfl, hc 3 _ (by omega) rfl⟩
theorem own_fzW {w : World} {base : Nat} {e : TypeId} {s g n cap : Nat} {ws : List Value} (h : w.ownsRow base e s (.slice (some ⟨g, 0, none⟩) n cap) n ws) (j : Nat) : w.frozen? ⟨g, j, none⟩ = false := by
 rcases h.2 with ⟨hv, hn0⟩ | ⟨g', cap', cur, hv, hbg, hg, _⟩
 ·simp at hv
 ·simp only [Value.slice.injEq, Option.some.injEq, Addr.mk.injEq, and_true, true_and] at hv
  obtain ⟨rfl, rfl⟩ := hv
  exact Blk.fz (t := e) hg j
theorem own_someW {w : World} {base : Nat} {e : TypeId} {s : Nat} {v : Value} {n : Nat} {ws : List Value} (h : w.ownsRow base e s v n ws) (hn : 0 < n) : ∃ g cap, v = .slice (some ⟨g, 0, none⟩) n cap ∧ g < w.heap.size ∧ n ≤ cap ∧ base ≤ g := by
 rcases h.2 with ⟨hv, hn0⟩ | ⟨g, cap, cur, rfl, hbg, hg, hnc, _⟩
 ·omega
 ·exact ⟨g, cap, rfl, Blk.lt (t := e) hg, hnc, hbg⟩
theorem own_slW {w : World} {base : Nat} {e : TypeId} {s : Nat} {v : Value} {n : Nat} {ws : List Value} (h : w.ownsRow base e s v n ws) : ∃ a cap, v = .slice a n cap := by
 rcases h.2 with ⟨hv, hn0⟩ | ⟨g, cap, cur, rfl, _⟩
 ·subst hn0; exact ⟨_, _, hv⟩
 ·exact ⟨_, _, rfl⟩
theorem own_thereW {w : World} {base : Nat} {e : TypeId} {g n cap j : Nat} {ws : List Ar} (h : w.ownsRow base e 4 (.slice (some ⟨g, 0, none⟩) n cap) n (ws.flatMap encA)) (hj : j < ws.length) : w.there g (j * 4) 4 := by
 obtain ⟨h0, h1, h2, h3⟩ := own_four h hj
 intro i hi
 refine ⟨?_, own_fzW h _⟩
 have : i = 0 ∨ i = 1 ∨ i = 2 ∨ i = 3 := by omega
 rcases this with rfl | rfl | rfl | rfl
 ·rw [Nat.add_zero, h0]; rfl
 ·rw [h1]; rfl
 ·rw [h2]; rfl
 ·rw [h3]; rfl
theorem set_wayL {xs : List Ar} {k : Nat} (hk : k < xs.length) (p : Ar) : ((((xs.flatMap encA).set (k * 4) (.int .i64 p.1)).set (k * 4 + 1) (.int .i64 p.2.1)).set (k * 4 + 2) (.int .i64 p.2.2.1)).set (k * 4 + 3) (.int .i64 p.2.2.2) = (xs.set k p).flatMap encA := by
  induction xs generalizing k with
  | nil => simp at hk
  | cons x xs ih =>
    cases k with
    | zero => simp [encA]
    | succ k =>
      have h4 := ih (k := k) (by simpa using hk)
      rw [List.set_cons_succ, List.flatMap_cons, List.flatMap_cons, ← h4]
      have e : ∀ (l : List Value) (i : Nat) (v : Value), (encA x ++ l).set ((k + 1) * 4 + i) v = encA x ++ l.set (k * 4 + i) v := fun l i v => by
        rw [List.set_append_right _ _ (by rw [encA_len]; omega), encA_len]
        congr 2
        omega
      have e0 := e (xs.flatMap encA) 0 (.int .i64 p.1)
      have e1 : (encA x ++ List.flatMap encA xs).set ((k + 1) * 4) (Value.int IntKind.i64 p.1) = encA x ++ (List.flatMap encA xs).set (k * 4) (Value.int IntKind.i64 p.1) := e0
      rw [e1, e, e, e]
theorem own_setW {w : World} {base : Nat} {e : TypeId} {g n cap j : Nat} {ws : List Ar} (h : w.ownsRow base e 4 (.slice (some ⟨g, 0, none⟩) n cap) n (ws.flatMap encA)) (hj : j < ws.length) (x : Ar) :
  (w.setCells g (j * 4) (encA x)).ownsRow base e 4 (.slice (some ⟨g, 0, none⟩) n cap) n ((ws.set j x).flatMap encA) := by
 have hlen := h.1
 rw [flat_length encA_len] at hlen
 rcases h.2 with ⟨hv, hn0⟩ | ⟨g', cap', cur, hv, hbg, hg, hnc, hcm, hcs, htake⟩
 ·simp at hv
 ·simp only [Value.slice.injEq, Option.some.injEq, Addr.mk.injEq, and_true, true_and] at hv
  obtain ⟨rfl, rfl⟩ := hv
  have hB : Blk w g cur e := hg
  refine ⟨by rw [flat_length encA_len, List.length_set]; exact hlen, .inr ⟨g, cap, (((cur.setIfInBounds (j * 4) (.int .i64 x.1)).setIfInBounds (j * 4 + 1) (.int .i64 x.2.1)).setIfInBounds (j * 4 + 2) (.int .i64 x.2.2.1)).setIfInBounds (j * 4 + 3) (.int .i64 x.2.2.2), rfl, hbg, ?_, hnc, hcm, by simpa using hcs, ?_⟩⟩
  ·have := (((hB.set (j * 4) (.int .i64 x.1)).set (j * 4 + 1) (.int .i64 x.2.1)).set (j * 4 + 2) (.int .i64 x.2.2.1)).set (j * 4 + 3) (.int .i64 x.2.2.2)
   exact this
  ·rw [Array.toList_setIfInBounds, Array.toList_setIfInBounds, Array.toList_setIfInBounds, Array.toList_setIfInBounds, List.take_set, List.take_set, List.take_set, List.take_set, htake]
   exact set_wayL hj x
theorem gSetW (w : World) (g o : Nat) (x : Ar) : w.grownBy (w.setCells g o (encA x)) (some g) :=
 gTrans (gTrans (gTrans (gSet w g o (.int .i64 x.1)) (gSet _ g (o + 1) (.int .i64 x.2.1))) (gSet _ g (o + 1 + 1) (.int .i64 x.2.2.1))) (gSet _ g (o + 1 + 1 + 1) (.int .i64 x.2.2.2))
set_option maxRecDepth 100000 in
theorem wLen_any (a : Option Addr) (n cap : Nat) (w : World) :
  Calls Tryz.prog 169 #[.slice a n cap] w fun e w' => e = .returned (.int .i64 (n : Int)) ∧ w' = w := by
 go_enter Tryz.func169, Tryz.ntmps169
 go_wp2
 go_ret
 exact ⟨rfl, rfl⟩
set_option maxRecDepth 100000 in
set_option maxHeartbeats 2000000 in
theorem wLess_any (g n cap : Nat) (w : World) (x y : Int) (i j : Nat) (hi : i < n) (hj : j < n) (hn : n ≤ 10000000) (ci : w.cell? ⟨g, i * 4 + 3, none⟩ = some (.int .i64 x)) (cj : w.cell? ⟨g, j * 4 + 3, none⟩ = some (.int .i64 y)) :
  Calls Tryz.prog 228 #[.slice (some ⟨g, 0, none⟩) n cap, .int .i64 (i : Int), .int .i64 (j : Int)] w fun e w' => e = .returned (.bool (decide (x < y))) ∧ ∃ q, w' = w.drewN q := by
 go_enter Tryz.func228, Tryz.ntmps228
 go_wp2
 go_quiet (fail)
 go_wp2
 go_ret
 exact ⟨rfl, _, rfl⟩
theorem infoWay : (Tryz.prog.info? 222).map (fun i => (i.zero, i.size, i.bytes)) = some (some (.agg #[.int .i64 0, .int .i64 0, .int .i64 0, .int .i64 0]), 4, 32) := by kernel_rfl
theorem infoWaySize : (Tryz.prog.info? 222).map (·.size) = some 4 := by kernel_rfl
def HeldT (_ : World) : Prop := True
set_option maxRecDepth 100000 in
set_option maxHeartbeats 2000000 in
theorem wSwap_any (g n cap : Nat) (w : World) (x y : Ar) (i j : Nat) (hi : i < n) (hj : j < n) (hn : n ≤ 10000000) (ci : FourW w g (i * 4) x) (cj : FourW w g (j * 4) y) (fi : w.there g (i * 4) 4) (fj : w.there g (j * 4) 4) :
  Calls Tryz.prog 229 #[.slice (some ⟨g, 0, none⟩) n cap, .int .i64 (i : Int), .int .i64 (j : Int)] w fun e w' => e = .returned (.tuple #[]) ∧ w' = (w.drew.setCells g (i * 4) (encA y)).setCells g (j * 4) (encA x) := by
 have F1 : Hid (w.drew.there g (i * 4) 4) := fi
 have F2 : Hid ((w.drew.setCells g (i * 4) (encA y)).there g (j * 4) 4) := World.there_setCells (w := w.drew) fj g (i * 4) (encA y)
 obtain ⟨W2, hW2⟩ : ∃ W2, W2 = (w.drew.setCells g (i * 4) (encA y)).setCells g (j * 4) (encA x) := ⟨_, rfl⟩
 have HW2 : Hid (W2 = (w.drew.setCells g (i * 4) (encA y)).setCells g (j * 4) (encA x)) := hW2
 rw [← hW2]
 clear hW2
 obtain ⟨x0, x1, x2, x3⟩ := x
 obtain ⟨y0, y1, y2, y3⟩ := y
 obtain ⟨a0, a1, a2, a3⟩ := ci
 obtain ⟨b0, b1, b2, b3⟩ := cj
 simp only at a0 a1 a2 a3 b0 b1 b2 b3
 have k1 : (0 : Int) ≤ (i : Int) := by omega
 have k2 : (i : Int) < (n : Int) := by omega
 have k3 : (0 : Int) ≤ (j : Int) := by omega
 have k4 : (j : Int) < (n : Int) := by omega
 clear fi fj
 have HS : HeldT w.drew := trivial
 go_enter Tryz.func229, Tryz.ntmps229
 go_wp2
 refine region_anyL HeldT 15 (by kernel_rfl) ?_
 refine anyL_tk (i := 0) (v := ?v0_1) aZ0 (by kernel_rfl) ?y0_1 HS ?r0_1
 case y0_1 => intro wx hx; obtain h1 := hx; go_simp; try (with_reducible rfl)
 simp only [Act.put, List.setIfInBounds_toArray, List.set_cons_zero, List.set_cons_succ]
 refine anyL_tk (i := 1) (v := ?v1_2) aZ1 (by kernel_rfl) ?y1_2 HS ?r1_2
 case y1_2 => intro wx hx; obtain h1 := hx; go_simp; try (with_reducible rfl)
 simp only [Act.put, List.setIfInBounds_toArray, List.set_cons_zero, List.set_cons_succ]
 refine anyL_tk (i := 2) (v := ?v2_3) aZ2 (by kernel_rfl) ?y2_3 HS ?r2_3
 case y2_3 => intro wx hx; obtain h1 := hx; go_simp; try (with_reducible rfl)
 simp only [Act.put, List.setIfInBounds_toArray, List.set_cons_zero, List.set_cons_succ]
 refine anyL_tk (i := 3) (v := ?v3_4) aZ3 (by kernel_rfl) ?y3_4 HS ?r3_4
 case y3_4 => intro wx hx; obtain h1 := hx; go_simp; try (with_reducible rfl)
 simp only [Act.put, List.setIfInBounds_toArray, List.set_cons_zero, List.set_cons_succ]
 refine anyL_tk (i := 4) (v := ?v4_5) aZ4 (by kernel_rfl) ?y4_5 HS ?r4_5
 case y4_5 => intro wx hx; obtain h1 := hx; go_simp; try (with_reducible rfl)
 simp only [Act.put, List.setIfInBounds_toArray, List.set_cons_zero, List.set_cons_succ]
 refine anyL_tk (i := 5) (v := ?v5_6) aZ5 (by kernel_rfl) ?y5_6 HS ?r5_6
 case y5_6 => intro wx hx; obtain h1 := hx; go_simp; try (with_reducible rfl)
 simp only [Act.put, List.setIfInBounds_toArray, List.set_cons_zero, List.set_cons_succ]
 refine anyL_tk (i := 6) (v := ?v6_7) aZ6 (by kernel_rfl) ?y6_7 HS ?r6_7
 case y6_7 => intro wx hx; obtain h1 := hx; go_simp; try (with_reducible rfl)
 simp only [Act.put, List.setIfInBounds_toArray, List.set_cons_zero, List.set_cons_succ]
 refine anyL_tk (i := 8) (v := ?v8_8) aZ8 (by kernel_rfl) ?y8_8 HS ?r8_8
 case y8_8 => intro wx hx; obtain h1 := hx; go_simp; try (with_reducible rfl)
 simp only [Act.put, List.setIfInBounds_toArray, List.set_cons_zero, List.set_cons_succ]
 refine anyL_tk (i := 9) (v := ?v9_9) aZ9 (by kernel_rfl) ?y9_9 HS ?r9_9
 case y9_9 => intro wx hx; obtain h1 := hx; go_simp; try (with_reducible rfl)
 simp only [Act.put, List.setIfInBounds_toArray, List.set_cons_zero, List.set_cons_succ]
 refine anyL_tk (i := 10) (v := ?v10_10) aZ10 (by kernel_rfl) ?y10_10 HS ?r10_10
 case y10_10 => intro wx hx; obtain h1 := hx; go_simp; try (with_reducible rfl)
 simp only [Act.put, List.setIfInBounds_toArray, List.set_cons_zero, List.set_cons_succ]
 refine anyL_br (rs := [7, 11]) (by kernel_rfl) (by simp) (List.forall_mem_cons.2 ⟨⟨_, (atS (atS (atS (atS (atS (atS (atS at0))))))), rfl, fun K hK => ?_⟩, List.forall_mem_cons.2 ⟨⟨_, (atS (atS (atS (atS (atS (atS (atS (atS (atS (atS (atS at0))))))))))), rfl, fun K hK => ?_⟩, fun _ h => absurd h (by simp)⟩⟩)
 ·go_simp
  refine hK _ _ (.inr trivial) ?_
  try simp only [Act.put, List.setIfInBounds_toArray, List.set_cons_zero, List.set_cons_succ]
  refine anyL_one (i := 11) aZ11 (by kernel_rfl) rfl (fun K hK => ?_)
  go_simp
  refine hK _ _ (.inr trivial) ?_
  try simp only [Act.put, List.setIfInBounds_toArray, List.set_cons_zero, List.set_cons_succ]
  refine anyL_tk (i := 12) (v := ?v12_11) aZ12 (by kernel_rfl) ?y12_11 HS ?r12_11
  case y12_11 => intro wx hx; obtain h1 := hx; go_simp; try (with_reducible rfl)
  simp only [Act.put, List.setIfInBounds_toArray, List.set_cons_zero, List.set_cons_succ]
  refine anyL_one (i := 13) aZ13 (by kernel_rfl) rfl (fun K hK => ?_)
  refine wp_store_mid 222 (.tmp 18) (.tmp 13) rfl g (i * 4) #[.int .i64 y0, .int .i64 y1, .int .i64 y2, .int .i64 y3] rfl rfl F1.out infoWaySize (by simp [Value.oneCell']) ?_
  refine hK _ _ (.inr trivial) ?_
  try simp only [Act.put, List.setIfInBounds_toArray, List.set_cons_zero, List.set_cons_succ]
  refine anyL_tk (i := 14) (v := ?v14_12) aZ14 (by kernel_rfl) ?y14_12 trivial ?r14_12
  case y14_12 => intro wx hx; obtain h1 := hx; go_simp; try (with_reducible rfl)
  simp only [Act.put, List.setIfInBounds_toArray, List.set_cons_zero, List.set_cons_succ]
  refine anyL_one (i := 15) aZ15 (by kernel_rfl) rfl (fun K hK => ?_)
  refine wp_store_mid 222 (.tmp 19) (.tmp 17) rfl g (j * 4) #[.int .i64 x0, .int .i64 x1, .int .i64 x2, .int .i64 x3] rfl rfl F2.out infoWaySize (by simp [Value.oneCell']) ?_
  rw [show (World.setCells (World.setCells w.drew g (i * 4) (#[Value.int .i64 y0, .int .i64 y1, .int .i64 y2, .int .i64 y3] : Array Value).toList) g (j * 4) (#[Value.int .i64 x0, .int .i64 x1, .int .i64 x2, .int .i64 x3] : Array Value).toList) = W2 from HW2.out.symm]
  refine hK _ _ (.inl rfl) (anyL_done (by kernel_rfl) (NoPanic.normal ?_))
  clear a0 a1 a2 a3 b0 b1 b2 b3 F1 F2 HW2 hK
  go_end0
  exact ⟨rfl, rfl⟩
 ·go_simp
  refine hK _ _ (.inr trivial) ?_
  try simp only [Act.put, List.setIfInBounds_toArray, List.set_cons_zero, List.set_cons_succ]
  refine anyL_one (i := 7) aZ7 (by kernel_rfl) rfl (fun K hK => ?_)
  go_simp
  refine hK _ _ (.inr trivial) ?_
  try simp only [Act.put, List.setIfInBounds_toArray, List.set_cons_zero, List.set_cons_succ]
  refine anyL_tk (i := 12) (v := ?v12_13) aZ12 (by kernel_rfl) ?y12_13 HS ?r12_13
  case y12_13 => intro wx hx; obtain h1 := hx; go_simp; try (with_reducible rfl)
  simp only [Act.put, List.setIfInBounds_toArray, List.set_cons_zero, List.set_cons_succ]
  refine anyL_one (i := 13) aZ13 (by kernel_rfl) rfl (fun K hK => ?_)
  refine wp_store_mid 222 (.tmp 18) (.tmp 13) rfl g (i * 4) #[.int .i64 y0, .int .i64 y1, .int .i64 y2, .int .i64 y3] rfl rfl F1.out infoWaySize (by simp [Value.oneCell']) ?_
  refine hK _ _ (.inr trivial) ?_
  try simp only [Act.put, List.setIfInBounds_toArray, List.set_cons_zero, List.set_cons_succ]
  refine anyL_tk (i := 14) (v := ?v14_14) aZ14 (by kernel_rfl) ?y14_14 trivial ?r14_14
  case y14_14 => intro wx hx; obtain h1 := hx; go_simp; try (with_reducible rfl)
  simp only [Act.put, List.setIfInBounds_toArray, List.set_cons_zero, List.set_cons_succ]
  refine anyL_one (i := 15) aZ15 (by kernel_rfl) rfl (fun K hK => ?_)
  refine wp_store_mid 222 (.tmp 19) (.tmp 17) rfl g (j * 4) #[.int .i64 x0, .int .i64 x1, .int .i64 x2, .int .i64 x3] rfl rfl F2.out infoWaySize (by simp [Value.oneCell']) ?_
  rw [show (World.setCells (World.setCells w.drew g (i * 4) (#[Value.int .i64 y0, .int .i64 y1, .int .i64 y2, .int .i64 y3] : Array Value).toList) g (j * 4) (#[Value.int .i64 x0, .int .i64 x1, .int .i64 x2, .int .i64 x3] : Array Value).toList) = W2 from HW2.out.symm]
  refine hK _ _ (.inl rfl) (anyL_done (by kernel_rfl) (NoPanic.normal ?_))
  clear a0 a1 a2 a3 b0 b1 b2 b3 F1 F2 HW2 hK
  go_end0
  exact ⟨rfl, rfl⟩
structure Turn2 (w w' : World) (b : Nat) (r : Option Nat) : Prop where
 os : w'.os = w.os
 tape : w'.tape = w.tape
 output : w'.output = w.output
 size : w.heap.size ≤ w'.heap.size
 block : ∀ k, k < w.heap.size → k ≠ b → some k ≠ r → w'.heap[k]? = w.heap[k]?
theorem Turn2.grown {w w' : World} {r : Option Nat} (h : w.grownBy w' r) (b : Nat) : Turn2 w w' b r := ⟨h.os, h.tape, h.output, h.size, fun k hk _ hne => h.block k hk hne⟩
theorem Turn2.set {w w' : World} {b : Nat} {r : Option Nat} (h : Turn2 w w' b r) (o : Nat) (v : Value) : Turn2 w (w'.setCell ⟨b, o, none⟩ v) b r :=
 ⟨h.os, h.tape, h.output, by simp [World.setCell]; exact h.size, fun k hk hb hne => (Below.heap_setCell w' _ _ k hb).trans (h.block k hk hb hne)⟩
theorem Turn2.trans {w w1 w2 : World} {b : Nat} {r r1 : Option Nat} (h : Turn2 w w1 b r) (k : Turn2 w1 w2 b r1) (hr : r1 = r ∨ ∃ c, r1 = some c ∧ w.heap.size ≤ c) : Turn2 w w2 b r := by
 refine ⟨k.os.trans h.os, k.tape.trans h.tape, k.output.trans h.output, Nat.le_trans h.size k.size, fun i hi hb hne => ?_⟩
 refine (k.block i (Nat.lt_of_lt_of_le hi h.size) hb ?_).trans (h.block i hi hb hne)
 rcases hr with rfl | ⟨c, rfl, hc⟩
 ·exact hne
 ·intro e; simp at e; omega
theorem Turn2.blk {w w' : World} {b : Nat} {r : Option Nat} (h : Turn2 w w' b r) {k : Nat} {cs : Array Value} {t : TypeId} (hk : Blk w k cs t) (hb : k ≠ b) (hr : some k ≠ r) : Blk w' k cs t := hk.keep (h.block k hk.lt hb hr)
theorem Turn2.below {w w' : World} {b : Nat} {r : Option Nat} (h : Turn2 w w' b r) {base : Nat} (hb : base ≤ b) (hr : ∀ k, r = some k → base ≤ k) (hs : base ≤ w.heap.size) : Below base w w' :=
 ⟨h.os, h.tape, h.output, h.size, fun k hk => h.block k (by omega) (by omega) (fun e => by have := hr k e.symm; omega)⟩
theorem belowDN (w : World) (q : Nat) : Below w.heap.size w (w.drewN q) := ⟨rfl, rfl, rfl, Nat.le_refl _, fun _ _ => rfl⟩
theorem flat_takeA (ws : List Ar) : ∀ k, (ws.flatMap encA).take (k * 4) = (ws.take k).flatMap encA := by
  induction ws with
  | nil => intro k; simp
  | cons x ws ih =>
    intro k
    cases k with
    | zero => simp
    | succ k =>
      rw [List.flatMap_cons, List.take_succ_cons, List.flatMap_cons, ← ih k, List.take_append, encA_len, List.take_of_length_le (by rw [encA_len]; omega), show (k + 1) * 4 - 4 = k * 4 by omega]
theorem own_cutW {w : World} {base : Nat} {e : TypeId} {a : Option Addr} {n cap k : Nat} {ws : List Ar} (h : w.ownsRow base e 4 (.slice a n cap) n (ws.flatMap encA)) (hk : k < n) :
  ∃ g, a = some ⟨g, 0, none⟩ ∧ n ≤ cap ∧ w.ownsRow base e 4 (.slice (some ⟨g, 0, none⟩) k cap) k ((ws.take k).flatMap encA) := by
 have hlen := h.1
 rw [flat_length encA_len] at hlen
 rcases h.2 with ⟨hv, hn0⟩ | ⟨g, cap', cur, hv, hbg, hg, hnc, hcm, hcs, htake⟩
 ·omega
 ·simp only [Value.slice.injEq, true_and] at hv
  obtain ⟨rfl, rfl⟩ := hv
  refine ⟨g, rfl, hnc, ?_, .inr ⟨g, cap, cur, rfl, hbg, hg, by omega, hcm, hcs, ?_⟩⟩
  ·rw [flat_length encA_len, List.length_take]; omega
  ·have h1 : cur.toList.take (k * 4) = (cur.toList.take (n * 4)).take (k * 4) := by rw [List.take_take]; congr 1; omega
   rw [h1, htake, flat_takeA]
theorem assert_way (x0 x1 x2 x3 : Int) (w : World) : (Instr.typeAssert (.iface 222 (.agg #[.int .i64 x0, .int .i64 x1, .int .i64 x2, .int .i64 x3])) 20 222 false).run Tryz.prog w = .ok (.agg #[.int .i64 x0, .int .i64 x1, .int .i64 x2, .int .i64 x3]) w := by kernel_rfl
def wayV (x : Ar) : Value := .iface 222 (.agg #[.int .i64 x.1, .int .i64 x.2.1, .int .i64 x.2.2.1, .int .i64 x.2.2.2])
def HeldW (B : Nat) (v : Value) (w : World) : Prop := w.cell? ⟨B, 0, none⟩ = some v ∧ w.frozen? ⟨B, 0, none⟩ = false
set_option maxRecDepth 100000 in
set_option maxHeartbeats 2000000 in
theorem wPop_any (B base : Nat) (v : Value) (hs : List Ar) (n : Nat) (w : World) (hB : Blk w B #[v] 219) (hown : w.ownsRow base 222 4 v hs.length (hs.flatMap encA)) (hl : hs.length = n + 1) (hn : n ≤ 10000000) :
  Calls Tryz.prog 230 #[.pointer (some ⟨B, 0, none⟩)] w fun e w' => e = .returned (wayV (el hs n)) ∧ ∃ v', Blk w' B #[v'] 219 ∧ w'.ownsRow base 222 4 v' n ((hs.take n).flatMap encA) ∧ v'.ownBlock = v.ownBlock ∧ Turn2 w w' B v.ownBlock := by
 obtain ⟨a, cap, hv⟩ := own_slW hown
 subst hv
 rw [hl] at hown hB
 obtain ⟨g, hga, hnc, hcut⟩ := own_cutW (k := n) hown (by omega)
 subst hga
 obtain ⟨c0, c1, c2, c3⟩ := own_four hown (j := n) (by omega)
 have cB := hB.cell 0 (v := .slice (some ⟨g, 0, none⟩) (n + 1) cap) rfl
 have fB := hB.fz 0
 have sB := hB.lt
 have hne : some B ≠ Value.ownBlock (.slice (some ⟨g, 0, none⟩) n cap) := own_ne hcut hB (by decide)
 have k1 : (0 : Int) ≤ (n : Int) := by omega
 have k2 : (n : Int) < (n : Int) + 1 := by omega
 have k3 : (n : Int) ≤ (cap : Int) := by omega
 have k5 : IntKind.i64.wrap (n : Int) = (n : Int) := wrapI (by omega) (by omega)
 obtain ⟨y, hy⟩ : ∃ y : Ar, el hs n = y := ⟨_, rfl⟩
 rw [hy] at c0 c1 c2 c3
 rw [hy]
 clear hy
 obtain ⟨x0, x1, x2, x3⟩ := y
 simp only [wayV] at c0 c1 c2 c3 ⊢
 have HO : Hid (((w.setCell ⟨B, 0, none⟩ (.slice (some ⟨g, 0, none⟩) n cap)).alloc (.cells #[.int .i64 x0, .int .i64 x1, .int .i64 x2, .int .i64 x3] 222)).ownsRow base 222 4 (.slice (some ⟨g, 0, none⟩) n cap) n ((hs.take n).flatMap encA)) := (hcut.kept (gSet w B 0 _) (.inr (Ne.symm hne))).alloc _
 have HB : Hid (Blk ((w.setCell ⟨B, 0, none⟩ (.slice (some ⟨g, 0, none⟩) n cap)).alloc (.cells #[.int .i64 x0, .int .i64 x1, .int .i64 x2, .int .i64 x3] 222)) B #[.slice (some ⟨g, 0, none⟩) n cap] 219) := by have h9 := (hB.set 0 (.slice (some ⟨g, 0, none⟩) n cap)).alloc (.cells #[.int .i64 x0, .int .i64 x1, .int .i64 x2, .int .i64 x3] 222); exact h9
 have HT : Hid (Turn2 w ((w.setCell ⟨B, 0, none⟩ (.slice (some ⟨g, 0, none⟩) n cap)).alloc (.cells #[.int .i64 x0, .int .i64 x1, .int .i64 x2, .int .i64 x3] 222)) B (Value.ownBlock (.slice (some ⟨g, 0, none⟩) (n + 1) cap))) := by
  have h1 : Turn2 w (w.setCell ⟨B, 0, none⟩ (.slice (some ⟨g, 0, none⟩) n cap)) B (Value.ownBlock (.slice (some ⟨g, 0, none⟩) (n + 1) cap)) := Turn2.set (Turn2.grown (gNew (Below.refl _ _)) B) 0 _
  exact h1.trans (Turn2.grown (World.grownBy_alloc _ _ _) B) (.inl rfl)
 rw [hl]
 clear hown hB hcut hne
 go_enter Tryz.func230, Tryz.ntmps230
 go_wp2
 go_ret
 exact ⟨rfl, _, HB.out, HO.out, rfl, HT.out⟩
set_option maxRecDepth 100000 in
set_option maxHeartbeats 2000000 in
theorem wPush_any (B base : Nat) (v : Value) (hs : List Ar) (q : Ar) (w : World) (hB : Blk w B #[v] 219) (hown : w.ownsRow base 222 4 v hs.length (hs.flatMap encA)) (hbase : base ≤ w.heap.size) (hn : hs.length ≤ 9000000) :
  Calls Tryz.prog 231 #[.pointer (some ⟨B, 0, none⟩), wayV q] w fun e w' => e = .returned (.tuple #[]) ∧ ∃ v', Blk w' B #[v'] 219 ∧ w'.ownsRow base 222 4 v' (hs ++ [q]).length ((hs ++ [q]).flatMap encA) ∧ Near w v.ownBlock v' ∧ Turn2 w w' B v.ownBlock := by
 obtain ⟨i1, hi1, hy0, hy1, hy2⟩ := info_parts infoWay
 obtain ⟨q0, q1, q2, q3⟩ := q
 obtain ⟨a, cap, hv⟩ := own_slW hown
 have HV : Hid (v = .slice a hs.length cap) := hv
 have O2 : Hid ((w.drew.alloc (.cells #[.int .i64 q0, .int .i64 q1, .int .i64 q2, .int .i64 q3] 222)).ownsRow base 222 4 v hs.length (hs.flatMap encA)) := World.ownsRow.alloc (w := w.drew) hown _
 have B2 : Hid (Blk (w.drew.alloc (.cells #[.int .i64 q0, .int .i64 q1, .int .i64 q2, .int .i64 q3] 222)) B #[v] 219) := hB.drew.alloc _
 obtain ⟨v4, w4, r4, ho4, hg4, hn4⟩ := run_append_spot (P := Tryz.prog) (w := w.drew.alloc (.cells #[.int .i64 q0, .int .i64 q1, .int .i64 q2, .int .i64 q3] 222)) encA_len (by decide) encA_one 219 219 base 222 i1 _ 32 Tryz.underlying219 hi1 hy0 hy1 hy2 rfl _ hs.length (hs.flatMap encA) O2.out _ [(q0, q1, q2, q3)] (oneRow (enc := encA) w.drew (q0, q1, q2, q3) rfl 222) (by simp; unfold maxLen; omega) (by simp; omega) (by rw [World.size_alloc]; exact Nat.le_succ_of_le hbase)
 have B4 : Hid (Blk w4 B #[v] 219) := B2.out.grown hg4 (own_ne O2.out B2.out (by decide))
 have hne : some B ≠ v4.ownBlock := own_ne ho4 B4.out (by decide)
 have O5 : Hid ((w4.setCell ⟨B, 0, none⟩ v4).ownsRow base 222 4 v4 (hs ++ [(q0, q1, q2, q3)]).length ((hs ++ [(q0, q1, q2, q3)]).flatMap encA)) := by
  show World.ownsRow _ _ _ _ _ _ _
  rw [List.length_append, List.flatMap_append]
  exact ho4.kept (gSet w4 B 0 _) (.inr (Ne.symm hne))
 have B5 : Hid (Blk (w4.setCell ⟨B, 0, none⟩ v4) B #[v4] 219) := by have h9 := B4.out.set 0 v4; exact h9
 have N5 : Hid (Near w v.ownBlock v4) := by
  rcases hn4 with e | ⟨b, e, hb⟩
  ·exact .inl e
  ·exact .inr ⟨b, e, by rw [World.size_alloc] at hb; exact Nat.le_of_succ_le hb⟩
 have T5 : Hid (Turn2 w (w4.setCell ⟨B, 0, none⟩ v4) B v.ownBlock) := by
  have h1 : w.grownBy (w.drew.alloc (.cells #[.int .i64 q0, .int .i64 q1, .int .i64 q2, .int .i64 q3] 222)) v.ownBlock := gNew ((Below.refl w.heap.size w).drew.alloc (Nat.le_refl _) _)
  exact Turn2.set (Turn2.grown (gTrans h1 hg4) B) 0 _
 have HS : HeldW B v w.drew := ⟨hB.drew.cell 0 rfl, hB.drew.fz 0⟩
 have HSA : HeldW B v (w.drew.alloc (.cells #[.int .i64 q0, .int .i64 q1, .int .i64 q2, .int .i64 q3] 222)) := ⟨B2.out.cell 0 rfl, B2.out.fz 0⟩
 have HS4 : HeldW B v w4 := ⟨B4.out.cell 0 rfl, B4.out.fz 0⟩
 have f4 := B4.out.fz 0
 have c4 := B4.out.cell 0 (v := v) rfl
 have HR4 : Hid _ := r4
 obtain ⟨va4, vc4, hv4⟩ := own_slW ho4
 subst hv4
 rw [hv] at HS HSA HS4 HR4 c4
 clear hown hB ho4 hg4 hn4 r4 hne O2 B2
 obtain ⟨r, hr⟩ : ∃ r, v.ownBlock = r := ⟨_, rfl⟩
 rw [hr] at N5 T5
 rw [hr]
 clear hr HV
 simp only [wayV]
 have hta := assert_way q0 q1 q2 q3
 subst hv
 go_enter Tryz.func231, Tryz.ntmps231
 go_wp2
 refine region_anyL (HeldW B (.slice a hs.length cap)) 9 (by kernel_rfl) ?_
 refine anyL_tk (i := 0) (v := ?v0_1) aZ0 (by kernel_rfl) ?y0_1 HS ?r0_1
 case y0_1 => intro wx hx; obtain ⟨h1, h2⟩ := hx; go_simp; try (with_reducible rfl)
 simp only [Act.put, List.setIfInBounds_toArray, List.set_cons_zero, List.set_cons_succ]
 refine anyL_tk (i := 1) (v := ?v1_2) aZ1 (by kernel_rfl) ?y1_2 HS ?r1_2
 case y1_2 => intro wx hx; obtain ⟨h1, h2⟩ := hx; go_simp; try (with_reducible rfl)
 simp only [Act.put, List.setIfInBounds_toArray, List.set_cons_zero, List.set_cons_succ]
 refine anyL_tk (i := 2) (v := ?v2_3) aZ2 (by kernel_rfl) ?y2_3 HS ?r2_3
 case y2_3 => intro wx hx; obtain ⟨h1, h2⟩ := hx; go_simp; try (with_reducible rfl)
 simp only [Act.put, List.setIfInBounds_toArray, List.set_cons_zero, List.set_cons_succ]
 refine anyL_tk (i := 3) (v := ?v3_4) aZ3 (by kernel_rfl) ?y3_4 HS ?r3_4
 case y3_4 => intro wx hx; obtain ⟨h1, h2⟩ := hx; go_simp; try (with_reducible rfl)
 simp only [Act.put, List.setIfInBounds_toArray, List.set_cons_zero, List.set_cons_succ]
 refine anyL_tk (i := 4) (v := ?v4_5) aZ4 (by kernel_rfl) ?y4_5 HS ?r4_5
 case y4_5 => intro wx hx; obtain ⟨h1, h2⟩ := hx; go_simp; try (with_reducible rfl)
 simp only [Act.put, List.setIfInBounds_toArray, List.set_cons_zero, List.set_cons_succ]
 refine anyL_tk (i := 5) (v := ?v5_6) aZ5 (by kernel_rfl) ?y5_6 HS ?r5_6
 case y5_6 => intro wx hx; obtain ⟨h1, h2⟩ := hx; go_simp; try (with_reducible rfl)
 simp only [Act.put, List.setIfInBounds_toArray, List.set_cons_zero, List.set_cons_succ]
 refine anyL_one (i := 6) aZ6 (by kernel_rfl) rfl (fun K hK => ?_)
 go_simp
 refine hK _ _ (.inr HSA) ?_
 try simp only [Act.put, List.setIfInBounds_toArray, List.set_cons_zero, List.set_cons_succ]
 refine anyL_one (i := 7) aZ7 (by kernel_rfl) rfl (fun K hK => ?_)
 refine wp_append_run (.tmp 7) (.tmp 10) 219 rfl rfl rfl HR4.out ?_
 refine hK _ _ (.inr HS4) ?_
 try simp only [Act.put, List.setIfInBounds_toArray, List.set_cons_zero, List.set_cons_succ]
 refine anyL_tk (i := 8) (v := ?v8_7) aZ8 (by kernel_rfl) ?y8_7 HS4 ?r8_7
 case y8_7 => intro wx hx; obtain ⟨h1, h2⟩ := hx; go_simp; try (with_reducible rfl)
 simp only [Act.put, List.setIfInBounds_toArray, List.set_cons_zero, List.set_cons_succ]
 refine anyL_one (i := 9) aZ9 (by kernel_rfl) rfl (fun K hK => ?_)
 go_simp
 refine hK _ _ (.inl rfl) (anyL_done (by kernel_rfl) (NoPanic.normal ?_))
 try simp only [Act.put, List.setIfInBounds_toArray, List.set_cons_zero, List.set_cons_succ]
 clear HS HSA HS4 f4 c4
 go_end0
 exact ⟨rfl, _, B5.out, O5.out, N5.out, T5.out⟩
end Go.Proofs.YtfhjncpakgailaaGreatDoor.Wt
