/- The program: a heap of numbers in memory, and its five methods. The program: the heap's Push and Pop as methods; what they leave alone. The program: container/heap's up and down, at a heap of numbers. The program: container/heap's down, at a heap of numbers. The program: container/heap's Push and Pop, at a heap of numbers. -/
import Derived.Test.YtfekmlblldhieaaGreatDoorJ17J
import Derived.Test.YtfekmlblldhieaaGreatDoorJ17u
import Derived.Test.YtfekmlblldhieaaGreatDoorRg
import Derived.Deep.QuietTactic
import Derived.BigQuiet
import Derived.RegionTactic
import Derived.BigRegion
import Derived.Test.YtfekmlblldhieaaGreatDoorUa
namespace Go.Proofs.YtfekmlblldhieaaGreatDoor.Wt
open Go.ChangeShapes Go.WideShapes Go.ChangeAt Go.RowKit
open Go.Proofs.YtfekmlblldhieaaGreatDoor.Pl
set_option linter.unusedVariables false
set_option linter.unusedSimpArgs false
/-! How a method is found. -/
theorem load_ready (B : Nat) (w : World) {v : Value} (h : w.cell? ⟨B, 0, none⟩ = some v) : (loadVar 95 ⟨B, 0, none⟩).run Tryz.prog w = .ok v w := by
  simp [loadVar, isAgg, underlying, Tryz.underlying95, h, Result.andThen]
theorem meth_push (B : Nat) (w : World) : Sem.run Tryz.prog (method 277 97 (.pointer (some ⟨B, 0, none⟩)) "Push") w = .ok (116, .pointer (some ⟨B, 0, none⟩)) w := by kernel_rfl
theorem meth_pop (B : Nat) (w : World) : Sem.run Tryz.prog (method 277 97 (.pointer (some ⟨B, 0, none⟩)) "Pop") w = .ok (115, .pointer (some ⟨B, 0, none⟩)) w := by kernel_rfl
theorem meth_len0 (B : Nat) (w : World) : Sem.run Tryz.prog (method 277 97 (.pointer (some ⟨B, 0, none⟩)) "Len") w = Sem.run Tryz.prog (do let v ← loadVar 95 ⟨B, 0, none⟩; pure (47, v)) w := by kernel_rfl
theorem meth_less0 (B : Nat) (w : World) : Sem.run Tryz.prog (method 277 97 (.pointer (some ⟨B, 0, none⟩)) "Less") w = Sem.run Tryz.prog (do let v ← loadVar 95 ⟨B, 0, none⟩; pure (113, v)) w := by kernel_rfl
theorem meth_swap0 (B : Nat) (w : World) : Sem.run Tryz.prog (method 277 97 (.pointer (some ⟨B, 0, none⟩)) "Swap") w = Sem.run Tryz.prog (do let v ← loadVar 95 ⟨B, 0, none⟩; pure (114, v)) w := by kernel_rfl
theorem meth_len {B : Nat} {w : World} {v : Value} (h : w.cell? ⟨B, 0, none⟩ = some v) : Sem.run Tryz.prog (method 277 97 (.pointer (some ⟨B, 0, none⟩)) "Len") w = .ok (47, v) w := by
  rw [meth_len0]; simp [load_ready B w h, Sem.run_bind]
theorem meth_less {B : Nat} {w : World} {v : Value} (h : w.cell? ⟨B, 0, none⟩ = some v) : Sem.run Tryz.prog (method 277 97 (.pointer (some ⟨B, 0, none⟩)) "Less") w = .ok (113, v) w := by
  rw [meth_less0]; simp [load_ready B w h, Sem.run_bind]
theorem meth_swap {B : Nat} {w : World} {v : Value} (h : w.cell? ⟨B, 0, none⟩ = some v) : Sem.run Tryz.prog (method 277 97 (.pointer (some ⟨B, 0, none⟩)) "Swap") w = .ok (114, v) w := by
  rw [meth_swap0]; simp [load_ready B w h, Sem.run_bind]
/-! A store into a row of the call's own. -/
theorem flatI (l : List Int) : l.flatMap encI1 = l.map (Value.int .i64) := by
  induction l with
  | nil => rfl
  | cons x l ih => rw [List.flatMap_cons, ih]; rfl
theorem own_set {w : World} {base : Nat} {e : TypeId} {g n cap j : Nat} {ws : List Int} (h : w.ownsRow base e 1 (.slice (some ⟨g, 0, none⟩) n cap) n (ws.flatMap encI1)) (hj : j < n) (x : Int) :
    (w.setCell ⟨g, j, none⟩ (.int .i64 x)).ownsRow base e 1 (.slice (some ⟨g, 0, none⟩) n cap) n ((ws.set j x).flatMap encI1) := by
  have hlen := h.1
  rw [flat_length encI1_len] at hlen
  rcases h.2 with ⟨hv, hn0⟩ | ⟨g', cap', cur, hv, hbg, hg, hnc, hcm, hcs, htake⟩
  · omega
  · simp only [Value.slice.injEq, Option.some.injEq, Addr.mk.injEq, and_true, true_and] at hv
    obtain ⟨rfl, rfl⟩ := hv
    refine ⟨by rw [flat_length encI1_len, List.length_set]; exact hlen, .inr ⟨g, cap, cur.setIfInBounds j (.int .i64 x), rfl, hbg, ?_, hnc, hcm, by simpa using hcs, ?_⟩⟩
    · have := Blk.set (w := w) (b := g) (cs := cur) (t := e) hg j (.int .i64 x)
      exact this
    · rw [flatI] at htake ⊢
      rw [Array.toList_setIfInBounds, List.take_set, htake, List.map_set]
theorem own_fz {w : World} {base : Nat} {e : TypeId} {g n cap : Nat} {ws : List Value} (h : w.ownsRow base e 1 (.slice (some ⟨g, 0, none⟩) n cap) n ws) (j : Nat) : w.frozen? ⟨g, j, none⟩ = false := by
  rcases h.2 with ⟨hv, hn0⟩ | ⟨g', cap', cur, hv, hbg, hg, _⟩
  · simp at hv
  · simp only [Value.slice.injEq, Option.some.injEq, Addr.mk.injEq, and_true, true_and] at hv
    obtain ⟨rfl, rfl⟩ := hv
    exact Blk.fz (t := e) hg j
theorem own_some {w : World} {base : Nat} {e : TypeId} {v : Value} {n : Nat} {ws : List Value} (h : w.ownsRow base e 1 v n ws) (hn : 0 < n) : ∃ g cap, v = .slice (some ⟨g, 0, none⟩) n cap ∧ g < w.heap.size ∧ n ≤ cap ∧ base ≤ g := by
  rcases h.2 with ⟨hv, hn0⟩ | ⟨g, cap, cur, rfl, hbg, hg, hnc, _⟩
  · omega
  · exact ⟨g, cap, rfl, Blk.lt (t := e) hg, hnc, hbg⟩
/-! The methods. -/
set_option maxRecDepth 100000 in
theorem rLen_any (a : Option Addr) (n cap : Nat) (w : World) :
    Calls Tryz.prog 47 #[.slice a n cap] w fun e w' => e = .returned (.int .i64 (n : Int)) ∧ w' = w := by
  go_enter Tryz.func47, Tryz.ntmps47
  go_wp2
  go_ret
  exact ⟨rfl, rfl⟩
set_option maxRecDepth 100000 in
set_option maxHeartbeats 2000000 in
theorem rLess_any (g n cap : Nat) (w : World) (x y : Int) (i j : Nat) (hi : i < n) (hj : j < n) (hn : n ≤ 1000) (ci : w.cell? ⟨g, i, none⟩ = some (.int .i64 x)) (cj : w.cell? ⟨g, j, none⟩ = some (.int .i64 y)) :
    Calls Tryz.prog 113 #[.slice (some ⟨g, 0, none⟩) n cap, .int .i64 (i : Int), .int .i64 (j : Int)] w fun e w' => e = .returned (.bool (decide (x < y))) ∧ ∃ q, w' = w.drewN q := by
  go_enter Tryz.func113, Tryz.ntmps113
  go_wp2
  go_quiet (fail)
  go_wp2
  go_ret
  exact ⟨rfl, _, rfl⟩
set_option maxRecDepth 100000 in
set_option maxHeartbeats 2000000 in
theorem rSwap_any (g n cap : Nat) (w : World) (x y : Int) (i j : Nat) (hi : i < n) (hj : j < n) (hn : n ≤ 1000) (ci : w.cell? ⟨g, i, none⟩ = some (.int .i64 x)) (cj : w.cell? ⟨g, j, none⟩ = some (.int .i64 y)) (fi : w.frozen? ⟨g, i, none⟩ = false) (fj : w.frozen? ⟨g, j, none⟩ = false) :
    Calls Tryz.prog 114 #[.slice (some ⟨g, 0, none⟩) n cap, .int .i64 (i : Int), .int .i64 (j : Int)] w fun e w' => e = .returned (.tuple #[]) ∧ ∃ q, w' = ((w.setCell ⟨g, i, none⟩ (.int .i64 y)).setCell ⟨g, j, none⟩ (.int .i64 x)).drewN q := by
  obtain ⟨v', hy'⟩ := cell?_setCell_some (w := w) (p := ⟨g, i, none⟩) (x := .int .i64 y) (q := ⟨g, j, none⟩) cj
  go_enter Tryz.func114, Tryz.ntmps114
  go_wp2
  go_region
  all_goals (try go_wp2)
  all_goals go_end0
  all_goals exact ⟨rfl, 1, rfl⟩
end Go.Proofs.YtfekmlblldhieaaGreatDoor.Wt
namespace Go.Proofs.YtfekmlblldhieaaGreatDoor.Wt
open Go.ChangeShapes Go.WideShapes Go.ChangeAt Go.RowKit
open Go.Proofs.YtfekmlblldhieaaGreatDoor.Pl
set_option linter.unusedVariables false
set_option linter.unusedSimpArgs false
theorem infoIntH : (Tryz.prog.info? 3).map (fun i => (i.zero, i.size, i.bytes)) = some (some (.int .i64 0), 1, 8) := by kernel_rfl
theorem assert_int (x : Int) (w : World) : (Instr.typeAssert (.iface 3 (.int .i64 x)) 20 3 false).run Tryz.prog w = .ok (.int .i64 x) w := by kernel_rfl
def HeldR (B : Nat) (v : Value) (w : World) : Prop := w.cell? ⟨B, 0, none⟩ = some v ∧ w.frozen? ⟨B, 0, none⟩ = false
set_option maxRecDepth 100000 in
set_option maxHeartbeats 2000000 in
theorem rPop_any (B base : Nat) (v : Value) (hs : List Int) (n : Nat) (w : World) (hB : Blk w B #[v] 95) (hown : w.ownsRow base 3 1 v hs.length (hs.flatMap encI1)) (hl : hs.length = n + 1) (hn : n ≤ 1000) :
    Calls Tryz.prog 115 #[.pointer (some ⟨B, 0, none⟩)] w fun e w' => e = .returned (.iface 3 (.int .i64 (el hs n))) ∧ ∃ v', Blk w' B #[v'] 95 ∧ w'.ownsRow base 3 1 v' n ((hs.take n).flatMap encI1) ∧ v'.ownBlock = v.ownBlock ∧ Turn2 w w' B v.ownBlock := by
  obtain ⟨a, cap, hv⟩ := own_sl hown
  subst hv
  rw [hl] at hown hB
  obtain ⟨g, hga, hnc, hcut⟩ := own_cut (k := n) hown (by omega)
  subst hga
  have c0 := own_num hown (j := n) (by omega)
  have cB := hB.cell 0 (v := .slice (some ⟨g, 0, none⟩) (n + 1) cap) rfl
  have fB := hB.fz 0
  have hne : some B ≠ Value.ownBlock (.slice (some ⟨g, 0, none⟩) n cap) := own_ne hcut hB (by decide)
  have k1 : (0 : Int) ≤ (n : Int) := by omega
  have k2 : (n : Int) < (n : Int) + 1 := by omega
  have k3 : (n : Int) ≤ (cap : Int) := by omega
  have k5 : IntKind.i64.wrap (n : Int) = (n : Int) := wrapI (by omega) (by omega)
  have HO : Hid ((w.setCell ⟨B, 0, none⟩ (.slice (some ⟨g, 0, none⟩) n cap)).ownsRow base 3 1 (.slice (some ⟨g, 0, none⟩) n cap) n ((hs.take n).flatMap encI1)) := hcut.kept (gSet w B 0 _) (.inr (Ne.symm hne))
  have HB : Hid (Blk (w.setCell ⟨B, 0, none⟩ (.slice (some ⟨g, 0, none⟩) n cap)) B #[.slice (some ⟨g, 0, none⟩) n cap] 95) := by have h9 := hB.set 0 (.slice (some ⟨g, 0, none⟩) n cap); exact h9
  have HT : Hid (Turn2 w (w.setCell ⟨B, 0, none⟩ (.slice (some ⟨g, 0, none⟩) n cap)) B (Value.ownBlock (.slice (some ⟨g, 0, none⟩) (n + 1) cap))) := Turn2.set (Turn2.grown (gNew (Below.refl _ _)) B) 0 _
  generalize el hs n = x at *
  rw [hl]
  clear hown hB hcut hne
  go_enter Tryz.func115, Tryz.ntmps115
  go_wp2
  go_ret
  exact ⟨rfl, _, HB.out, HO.out, rfl, HT.out⟩
set_option maxRecDepth 100000 in
set_option maxHeartbeats 2000000 in
theorem rPush_any (B base : Nat) (v : Value) (hs : List Int) (q : Int) (w : World) (hB : Blk w B #[v] 95) (hown : w.ownsRow base 3 1 v hs.length (hs.flatMap encI1)) (hbase : base ≤ w.heap.size) (hn : hs.length ≤ 1000) :
    Calls Tryz.prog 116 #[.pointer (some ⟨B, 0, none⟩), .iface 3 (.int .i64 q)] w fun e w' => e = .returned (.tuple #[]) ∧ ∃ v', Blk w' B #[v'] 95 ∧ w'.ownsRow base 3 1 v' (hs ++ [q]).length ((hs ++ [q]).flatMap encI1) ∧ Near w v.ownBlock v' ∧ Turn2 w w' B v.ownBlock := by
  obtain ⟨i1, hi1, hy0, hy1, hy2⟩ := info_parts infoIntH
  obtain ⟨a, cap, hv⟩ := own_sl hown
  have HV : Hid (v = .slice a hs.length cap) := hv
  have O2 : Hid ((w.drew.alloc (.cells #[.int .i64 q] 3)).ownsRow base 3 1 v hs.length (hs.flatMap encI1)) := World.ownsRow.alloc (w := w.drew) hown _
  have B2 : Hid (Blk (w.drew.alloc (.cells #[.int .i64 q] 3)) B #[v] 95) := hB.drew.alloc _
  obtain ⟨v4, w4, r4, ho4, hg4, hn4⟩ := run_append_spot (P := Tryz.prog) (w := w.drew.alloc (.cells #[.int .i64 q] 3)) encI1_len (by decide) encI1_one 95 95 base 3 i1 _ 8 Tryz.underlying95 hi1 hy0 hy1 hy2 rfl _ hs.length (hs.flatMap encI1) O2.out _ [q] (oneRow (enc := encI1) w.drew q rfl 3) (by simp; unfold maxLen; omega) (by simp; omega) (by rw [World.size_alloc]; exact Nat.le_succ_of_le hbase)
  have B4 : Hid (Blk w4 B #[v] 95) := B2.out.grown hg4 (own_ne O2.out B2.out (by decide))
  have hne : some B ≠ v4.ownBlock := own_ne ho4 B4.out (by decide)
  have O5 : Hid ((w4.setCell ⟨B, 0, none⟩ v4).ownsRow base 3 1 v4 (hs ++ [q]).length ((hs ++ [q]).flatMap encI1)) := by
    show World.ownsRow _ _ _ _ _ _ _
    rw [List.length_append, List.flatMap_append]
    exact ho4.kept (gSet w4 B 0 _) (.inr (Ne.symm hne))
  have B5 : Hid (Blk (w4.setCell ⟨B, 0, none⟩ v4) B #[v4] 95) := by have h9 := B4.out.set 0 v4; exact h9
  have N5 : Hid (Near w v.ownBlock v4) := by
    rcases hn4 with e | ⟨b, e, hb⟩
    · exact .inl e
    · exact .inr ⟨b, e, by rw [World.size_alloc] at hb; exact Nat.le_of_succ_le hb⟩
  have T5 : Hid (Turn2 w (w4.setCell ⟨B, 0, none⟩ v4) B v.ownBlock) := by
    have h1 : w.grownBy (w.drew.alloc (.cells #[.int .i64 q] 3)) v.ownBlock := gNew ((Below.refl w.heap.size w).drew.alloc (Nat.le_refl _) _)
    exact Turn2.set (Turn2.grown (gTrans h1 hg4) B) 0 _
  have HS : HeldR B v w.drew := ⟨hB.drew.cell 0 rfl, hB.drew.fz 0⟩
  have HSA : HeldR B v (w.drew.alloc (.cells #[.int .i64 q] 3)) := ⟨B2.out.cell 0 rfl, B2.out.fz 0⟩
  have HS4 : HeldR B v w4 := ⟨B4.out.cell 0 rfl, B4.out.fz 0⟩
  have f4 := B4.out.fz 0
  have c4 := B4.out.cell 0 (v := v) rfl
  have HR4 : Hid _ := r4
  obtain ⟨va4, vc4, hv4⟩ := own_sl ho4
  subst hv4
  rw [hv] at HS HSA HS4 HR4 c4
  clear hown hB ho4 hg4 hn4 r4 hne O2 B2
  obtain ⟨r, hr⟩ : ∃ r, v.ownBlock = r := ⟨_, rfl⟩
  rw [hr] at N5 T5
  rw [hr]
  clear hr HV
  have hta := assert_int
  subst hv
  go_enter Tryz.func116, Tryz.ntmps116
  go_wp2
  refine region_anyL (HeldR B (.slice a hs.length cap)) 9 (by kernel_rfl) ?_
  refine anyL_take (i := 0) (v := ?v0_1) at0 (by kernel_rfl) (by kernel_rfl) (by kernel_rfl) (by kernel_rfl) (fun _ _ _ h => h) rfl ?y0_1 HS ?r0_1
  case y0_1 => intro wx hx; obtain ⟨h1, h2⟩ := hx; go_simp; try (with_reducible rfl)
  simp only [Act.put, List.setIfInBounds_toArray, List.set_cons_zero, List.set_cons_succ]
  refine anyL_take (i := 1) (v := ?v1_2) (atS at0) (by kernel_rfl) (by kernel_rfl) (by kernel_rfl) (by kernel_rfl) (fun _ _ _ h => h) rfl ?y1_2 HS ?r1_2
  case y1_2 => intro wx hx; obtain ⟨h1, h2⟩ := hx; go_simp; try (with_reducible rfl)
  simp only [Act.put, List.setIfInBounds_toArray, List.set_cons_zero, List.set_cons_succ]
  refine anyL_take (i := 2) (v := ?v2_3) (atS (atS at0)) (by kernel_rfl) (by kernel_rfl) (by kernel_rfl) (by kernel_rfl) (fun _ _ _ h => h) rfl ?y2_3 HS ?r2_3
  case y2_3 => intro wx hx; obtain ⟨h1, h2⟩ := hx; go_simp; try (with_reducible rfl)
  simp only [Act.put, List.setIfInBounds_toArray, List.set_cons_zero, List.set_cons_succ]
  refine anyL_take (i := 3) (v := ?v3_4) (atS (atS (atS at0))) (by kernel_rfl) (by kernel_rfl) (by kernel_rfl) (by kernel_rfl) (fun _ _ _ h => h) rfl ?y3_4 HS ?r3_4
  case y3_4 => intro wx hx; obtain ⟨h1, h2⟩ := hx; go_simp; try (with_reducible rfl)
  simp only [Act.put, List.setIfInBounds_toArray, List.set_cons_zero, List.set_cons_succ]
  refine anyL_take (i := 4) (v := ?v4_5) (atS (atS (atS (atS at0)))) (by kernel_rfl) (by kernel_rfl) (by kernel_rfl) (by kernel_rfl) (fun _ _ _ h => h) rfl ?y4_5 HS ?r4_5
  case y4_5 => intro wx hx; obtain ⟨h1, h2⟩ := hx; go_simp; try (with_reducible rfl)
  simp only [Act.put, List.setIfInBounds_toArray, List.set_cons_zero, List.set_cons_succ]
  refine anyL_take (i := 5) (v := ?v5_6) (atS (atS (atS (atS (atS at0))))) (by kernel_rfl) (by kernel_rfl) (by kernel_rfl) (by kernel_rfl) (fun _ _ _ h => h) rfl ?y5_6 HS ?r5_6
  case y5_6 => intro wx hx; obtain ⟨h1, h2⟩ := hx; go_simp; try (with_reducible rfl)
  simp only [Act.put, List.setIfInBounds_toArray, List.set_cons_zero, List.set_cons_succ]
  refine anyL_one (i := 6) (atS (atS (atS (atS (atS (atS at0)))))) (by kernel_rfl) rfl (fun K hK => ?_)
  go_simp
  refine hK _ _ (.inr HSA) ?_
  try simp only [Act.put, List.setIfInBounds_toArray, List.set_cons_zero, List.set_cons_succ]
  refine anyL_one (i := 7) (atS (atS (atS (atS (atS (atS (atS at0))))))) (by kernel_rfl) rfl (fun K hK => ?_)
  refine wp_append_run (.tmp 7) (.tmp 10) 95 rfl rfl rfl HR4.out ?_
  refine hK _ _ (.inr HS4) ?_
  try simp only [Act.put, List.setIfInBounds_toArray, List.set_cons_zero, List.set_cons_succ]
  refine anyL_take (i := 8) (v := ?v8_7) (atS (atS (atS (atS (atS (atS (atS (atS at0)))))))) (by kernel_rfl) (by kernel_rfl) (by kernel_rfl) (by kernel_rfl) (fun _ _ _ h => h) rfl ?y8_7 HS4 ?r8_7
  case y8_7 => intro wx hx; obtain ⟨h1, h2⟩ := hx; go_simp; try (with_reducible rfl)
  simp only [Act.put, List.setIfInBounds_toArray, List.set_cons_zero, List.set_cons_succ]
  refine anyL_one (i := 9) (atS (atS (atS (atS (atS (atS (atS (atS (atS at0))))))))) (by kernel_rfl) rfl (fun K hK => ?_)
  go_simp
  refine hK _ _ (.inl rfl) (anyL_done (by kernel_rfl) (NoPanic.normal ?_))
  try simp only [Act.put, List.setIfInBounds_toArray, List.set_cons_zero, List.set_cons_succ]
  clear HS HSA HS4 f4 c4
  go_end0
  exact ⟨rfl, _, B5.out, O5.out, N5.out, T5.out⟩
end Go.Proofs.YtfekmlblldhieaaGreatDoor.Wt
namespace Go.Proofs.YtfekmlblldhieaaGreatDoor.Wt
open Go.ChangeShapes Go.WideShapes Go.ChangeAt Go.RowKit
open Go.Proofs.YtfekmlblldhieaaGreatDoor.Pl
set_option linter.unusedVariables false
set_option linter.unusedSimpArgs false
/-- Less and Swap at a heap in memory. -/
theorem hLess {B base g n cap : Nat} {hs : List Int} {w : World} (hown : w.ownsRow base 3 1 (.slice (some ⟨g, 0, none⟩) n cap) n (hs.flatMap encI1)) (hl : hs.length = n) (hn : n ≤ 1000) {i j : Nat} (hi : i < n) (hj : j < n) :
    Calls Tryz.prog 113 #[.slice (some ⟨g, 0, none⟩) n cap, .int .i64 (i : Int), .int .i64 (j : Int)] w fun e w' => e = .returned (.bool (decide (el hs i < el hs j))) ∧ ∃ q, w' = w.drewN q :=
  rLess_any g n cap w _ _ i j hi hj hn (own_num hown (by omega)) (own_num hown (by omega))
theorem hSwap {B base g n cap : Nat} {hs : List Int} {w : World} (hown : w.ownsRow base 3 1 (.slice (some ⟨g, 0, none⟩) n cap) n (hs.flatMap encI1)) (hB : Blk w B #[.slice (some ⟨g, 0, none⟩) n cap] 95) (hl : hs.length = n) (hn : n ≤ 1000) {i j : Nat} (hi : i < n) (hj : j < n) :
    Calls Tryz.prog 114 #[.slice (some ⟨g, 0, none⟩) n cap, .int .i64 (i : Int), .int .i64 (j : Int)] w fun e w' => e = .returned (.tuple #[]) ∧ w'.ownsRow base 3 1 (.slice (some ⟨g, 0, none⟩) n cap) n ((swpL hs i j).flatMap encI1) ∧ Blk w' B #[.slice (some ⟨g, 0, none⟩) n cap] 95 ∧ w.grownBy w' (some g) := by
  refine (rSwap_any g n cap w _ _ i j hi hj hn (own_num hown (by omega)) (own_num hown (by omega)) (own_fz hown i) (own_fz hown j)).mono ?_
  rintro e w' ⟨rfl, q, rfl⟩
  have hne : some B ≠ some g := own_ne hown hB (by decide)
  have h1 := own_set hown hi (el hs j)
  have h2 := own_set h1 hj (el hs i)
  have g1 := gTrans (gSet w g i (.int .i64 (el hs j))) (gSet (w.setCell ⟨g, i, none⟩ (.int .i64 (el hs j))) g j (.int .i64 (el hs i)))
  refine ⟨rfl, ⟨h2.1, h2.2⟩, ?_, ?_⟩
  · exact (hB.grown g1 hne).drewN q
  · exact ⟨g1.os, g1.tape, g1.output, g1.size, g1.block⟩
set_option maxRecDepth 100000 in
set_option maxHeartbeats 3200000 in
theorem up_any (B base g n cap : Nat) (hs : List Int) (j : Nat) (w : World) (hB : Blk w B #[.slice (some ⟨g, 0, none⟩) n cap] 95) (hown : w.ownsRow base 3 1 (.slice (some ⟨g, 0, none⟩) n cap) n (hs.flatMap encI1)) (hl : hs.length = n) (hn : n ≤ 1000) (hU : UpL hs j) (hj : j < n) :
    Calls Tryz.prog 62 #[.iface 97 (.pointer (some ⟨B, 0, none⟩)), .int .i64 (j : Int)] w fun e w' => e = .returned (.tuple #[]) ∧ ∃ hs', HeapL hs' n ∧ hs'.Perm hs ∧ w'.ownsRow base 3 1 (.slice (some ⟨g, 0, none⟩) n cap) n (hs'.flatMap encI1) ∧ Blk w' B #[.slice (some ⟨g, 0, none⟩) n cap] 95 ∧ w.grownBy w' (some g) := by
  have HB0 : Hid (Blk w B #[.slice (some ⟨g, 0, none⟩) n cap] 95) := hB
  have HO0 : Hid (w.ownsRow base 3 1 (.slice (some ⟨g, 0, none⟩) n cap) n (hs.flatMap encI1)) := hown
  have HU0 : Hid (UpL hs j ∧ hs.length = n ∧ hs.Perm hs) := ⟨hU, hl, List.Perm.refl _⟩
  clear hB hown hl hU
  have hnot : ∀ (x : Bool) (w : World), (Op.unary .not (.bool x)).run Tryz.prog w = .ok (.bool (!x)) w := fun _ _ => rfl
  go_enter Tryz.func62, Tryz.ntmps62
  go_wp2
  go_loopw [1] (fun s1 wr => ∃ (j : Nat) (hs' : List Int), s1 = .int .i64 (j : Int) ∧ j < n ∧ Hid (UpL hs' j ∧ hs'.length = n ∧ hs'.Perm hs) ∧ Hid (wr.ownsRow base 3 1 (.slice (some ⟨g, 0, none⟩) n cap) n (hs'.flatMap encI1)) ∧ Hid (Blk wr B #[.slice (some ⟨g, 0, none⟩) n cap] 95) ∧ Hid (w.grownBy wr (some g))) (fun s1 _ => (intOf s1).toNat)
  case atStart => exact ⟨j, hs, rfl, hj, HU0, HO0, HB0, gNew (Below.refl _ _)⟩
  case round =>
    obtain ⟨j, hs', rfl, hj, hU, hO, hB, hg⟩ := hrel
    clear HB0 HO0 HU0
    have HLN : Hid (hs'.length = n) := hU.out.2.1
    by_cases hj0 : j = 0
    · subst hj0
      have HH : Hid (HeapL hs' n) := by have h9 := hU.out.1.top; rw [HLN.out] at h9; exact h9
      go_wp2
      go_end0
      exact ⟨rfl, hs', HH.out, hU.out.2.2, hO.out, hB.out, hg.out⟩
    · obtain ⟨i, hi⟩ : ∃ i, (j - 1) / 2 = i := ⟨_, rfl⟩
      have hij : i < j := by omega
      have mL := meth_less (hB.out.cell 0 (v := .slice (some ⟨g, 0, none⟩) n cap) rfl)
      have mS : ∀ q, Sem.run Tryz.prog (method 277 97 (.pointer (some ⟨B, 0, none⟩)) "Swap") (wr.drewN q) = .ok (114, .slice (some ⟨g, 0, none⟩) n cap) (wr.drewN q) := fun q => meth_swap ((hB.out.drewN q).cell 0 (v := .slice (some ⟨g, 0, none⟩) n cap) rfl)
      have HL : Hid (Calls Tryz.prog 113 #[.slice (some ⟨g, 0, none⟩) n cap, .int .i64 (j : Int), .int .i64 (i : Int)] wr fun e w' => e = .returned (.bool (decide (el hs' j < el hs' i))) ∧ ∃ q, w' = wr.drewN q) := hLess (B := B) hO.out HLN.out hn (i := j) (j := i) hj (by omega)
      have HSW : Hid (∀ q, Calls Tryz.prog 114 #[.slice (some ⟨g, 0, none⟩) n cap, .int .i64 (i : Int), .int .i64 (j : Int)] (wr.drewN q) fun e w' => e = .returned (.tuple #[]) ∧ w'.ownsRow base 3 1 (.slice (some ⟨g, 0, none⟩) n cap) n ((swpL hs' i j).flatMap encI1) ∧ Blk w' B #[.slice (some ⟨g, 0, none⟩) n cap] 95 ∧ (wr.drewN q).grownBy w' (some g)) := fun q => hSwap (B := B) (w := wr.drewN q) ⟨hO.out.1, hO.out.2⟩ (hB.out.drewN q) HLN.out hn (i := i) (j := j) (by omega) hj
      have hd : IntKind.i64.wrap (((j : Int) - 1).tdiv 2) = (i : Int) := by
        rw [show (j : Int) - 1 = ((j - 1 : Nat) : Int) by omega, show (2 : Int) = ((2 : Nat) : Int) from rfl, ← Int.ofNat_tdiv, hi]
        exact wrapI (by omega) (by omega)
      have hne : ((i : Int) == (j : Int)) = false := by simp; omega
      by_cases hlt : el hs' j < el hs' i
      · rw [decide_eq_true hlt] at HL
        have HU2 : Hid (UpL (swpL hs' i j) i ∧ (swpL hs' i j).length = n ∧ (swpL hs' i j).Perm hs) := by
          have h9 := hU.out.1.swap (by omega) (by rw [HLN.out]; exact hj) (by rw [hi]; exact hlt)
          rw [hi] at h9
          exact ⟨h9, by rw [swp_length]; exact HLN.out, (swp_perm (by rw [HLN.out]; omega) (by rw [HLN.out]; exact hj)).trans hU.out.2.2⟩
        clear hlt hi
        go_wp2_with (first
          | (go_at_call 113; refine HL.out.mono ?_; rintro e w' ⟨rfl, q, rfl⟩)
          | (go_at_call 114; refine (HSW.out _).mono ?_; rintro e w' ⟨rfl, ho2, hb2, hg2⟩; have HO2 : Hid (w'.ownsRow base 3 1 (.slice (some ⟨g, 0, none⟩) n cap) n ((swpL hs' i j).flatMap encI1)) := ho2; have HB2 : Hid (Blk w' B #[.slice (some ⟨g, 0, none⟩) n cap] 95) := hb2; have HG2 : Hid (w.grownBy w' (some g)) := gTrans (gTrans hg.out (gNew (belowDN wr q))) hg2; clear ho2 hb2 hg2))
        go_roundw
        case rel => exact ⟨i, swpL hs' i j, rfl, by omega, HU2, HO2, HB2, HG2⟩
        case measure => simp [intOf]; omega
      · rw [decide_eq_false hlt] at HL
        have HH : Hid (HeapL hs' n) := by have h9 := hU.out.1.stop (by rw [hi]; exact hlt); rw [HLN.out] at h9; exact h9
        clear hlt hi
        go_wp2_with (first
          | (go_at_call 113; refine HL.out.mono ?_; rintro e w' ⟨rfl, q, rfl⟩))
        go_end0
        exact ⟨rfl, hs', HH.out, hU.out.2.2, ⟨hO.out.1, hO.out.2⟩, hB.out.drewN q, gTrans hg.out (gNew (belowDN wr q))⟩
end Go.Proofs.YtfekmlblldhieaaGreatDoor.Wt
namespace Go.Proofs.YtfekmlblldhieaaGreatDoor.Wt
open Go.ChangeShapes Go.WideShapes Go.ChangeAt Go.RowKit
open Go.Proofs.YtfekmlblldhieaaGreatDoor.Pl
set_option linter.unusedVariables false
set_option linter.unusedSimpArgs false
theorem drewN_two (w : World) (a b : Nat) : (w.drewN a).drewN b = w.drewN (a + b) := by
  show ({ w with drawn := w.drawn + a + b } : World) = { w with drawn := w.drawn + (a + b) }
  rw [Nat.add_assoc]
theorem hLessD {B base g n cap : Nat} {hs : List Int} {w : World} (q : Nat) (hown : w.ownsRow base 3 1 (.slice (some ⟨g, 0, none⟩) n cap) n (hs.flatMap encI1)) (hl : hs.length = n) (hn : n ≤ 1000) {i j : Nat} (hi : i < n) (hj : j < n) :
    Calls Tryz.prog 113 #[.slice (some ⟨g, 0, none⟩) n cap, .int .i64 (i : Int), .int .i64 (j : Int)] (w.drewN q) fun e w' => e = .returned (.bool (decide (el hs i < el hs j))) ∧ ∃ q2, w' = w.drewN q2 :=
  (hLess (B := B) (w := w.drewN q) ⟨hown.1, hown.2⟩ hl hn hi hj).mono fun _ _ h => ⟨h.1, by obtain ⟨q2, h2⟩ := h.2; exact ⟨q + q2, h2.trans (drewN_two w q q2)⟩⟩
set_option maxRecDepth 100000 in
set_option maxHeartbeats 6400000 in
theorem down_any (B base g m cap n : Nat) (hs : List Int) (w : World) (hB : Blk w B #[.slice (some ⟨g, 0, none⟩) m cap] 95) (hown : w.ownsRow base 3 1 (.slice (some ⟨g, 0, none⟩) m cap) m (hs.flatMap encI1)) (hl : hs.length = m) (hnm : n < m) (hm : m ≤ 1000) (hD : DownL hs 0 n) :
    Calls Tryz.prog 63 #[.iface 97 (.pointer (some ⟨B, 0, none⟩)), .int .i64 0, .int .i64 (n : Int)] w fun e w' => (∃ b, e = .returned (.bool b)) ∧ ∃ hs', HeapL hs' n ∧ hs'.Perm hs ∧ hs'.drop n = hs.drop n ∧ w'.ownsRow base 3 1 (.slice (some ⟨g, 0, none⟩) m cap) m (hs'.flatMap encI1) ∧ Blk w' B #[.slice (some ⟨g, 0, none⟩) m cap] 95 ∧ w.grownBy w' (some g) := by
  have HB0 : Hid (Blk w B #[.slice (some ⟨g, 0, none⟩) m cap] 95) := hB
  have HO0 : Hid (w.ownsRow base 3 1 (.slice (some ⟨g, 0, none⟩) m cap) m (hs.flatMap encI1)) := hown
  have HD0 : Hid (DownL hs 0 n ∧ hs.length = m ∧ hs.Perm hs ∧ hs.drop n = hs.drop n) := ⟨hD, hl, List.Perm.refl _, rfl⟩
  clear hB hown hl hD
  have hnot : ∀ (x : Bool) (w : World), (Op.unary .not (.bool x)).run Tryz.prog w = .ok (.bool (!x)) w := fun _ _ => rfl
  go_enter Tryz.func63, Tryz.ntmps63
  go_wp2
  go_loopw [7] (fun s7 wr => ∃ (i : Nat) (hs' : List Int), s7 = .int .i64 (i : Int) ∧ i < m ∧ Hid (DownL hs' i n ∧ hs'.length = m ∧ hs'.Perm hs ∧ hs'.drop n = hs.drop n) ∧ Hid (wr.ownsRow base 3 1 (.slice (some ⟨g, 0, none⟩) m cap) m (hs'.flatMap encI1)) ∧ Hid (Blk wr B #[.slice (some ⟨g, 0, none⟩) m cap] 95) ∧ Hid (w.grownBy wr (some g))) (fun s7 _ => m - (intOf s7).toNat)
  case atStart => exact ⟨0, hs, rfl, by omega, ⟨HD0.out.1, HD0.out.2.1, List.Perm.refl _, rfl⟩, HO0, HB0, gNew (Below.refl _ _)⟩
  case round =>
    obtain ⟨i, hs', rfl, him, hD, hO, hB, hg⟩ := hrel
    clear HB0 HO0 HD0
    have HLN : Hid (hs'.length = m) := hD.out.2.1
    have hneg : decide (2 * (i : Int) + 1 < 0) = false := decide_eq_false (by omega)
    by_cases h1 : n ≤ 2 * i + 1
    · have h1z : (n : Int) ≤ 2 * (i : Int) + 1 := by omega
      have HH : Hid (HeapL hs' n) := hD.out.1.leaf h1
      go_wp2
      go_ret
      exact ⟨⟨_, rfl⟩, hs', HH.out, hD.out.2.2.1, hD.out.2.2.2, hO.out, hB.out, hg.out⟩
    · have h1z : ¬ (n : Int) ≤ 2 * (i : Int) + 1 := by omega
      have h1d : decide ((n : Int) ≤ 2 * (i : Int) + 1) = false := decide_eq_false h1z
      have mL0 := meth_less (hB.out.cell 0 (v := .slice (some ⟨g, 0, none⟩) m cap) rfl)
      have mL : ∀ q, Sem.run Tryz.prog (method 277 97 (.pointer (some ⟨B, 0, none⟩)) "Less") (wr.drewN q) = .ok (113, .slice (some ⟨g, 0, none⟩) m cap) (wr.drewN q) := fun q => meth_less ((hB.out.drewN q).cell 0 (v := .slice (some ⟨g, 0, none⟩) m cap) rfl)
      have mS : ∀ q, Sem.run Tryz.prog (method 277 97 (.pointer (some ⟨B, 0, none⟩)) "Swap") (wr.drewN q) = .ok (114, .slice (some ⟨g, 0, none⟩) m cap) (wr.drewN q) := fun q => meth_swap ((hB.out.drewN q).cell 0 (v := .slice (some ⟨g, 0, none⟩) m cap) rfl)
      by_cases h2 : 2 * i + 1 + 1 < n
      · have h2z : 2 * (i : Int) + 1 + 1 < (n : Int) := by omega
        have h2d : decide (2 * (i : Int) + 1 + 1 < (n : Int)) = true := decide_eq_true h2z
        by_cases hr : el hs' (2 * i + 1 + 1) < el hs' (2 * i + 1)
        · skip
          have hcm : 2 * i + 1 + 1 < m := by omega
          have ec : ((2 * i + 1 + 1 : Nat) : Int) = 2 * (i : Int) + 1 + 1 := by omega
          have LC : Hid (LowC hs' i n (2 * i + 1 + 1)) := LowC.right h2 hr
          have HL2 : Hid (∀ q, Calls Tryz.prog 113 #[.slice (some ⟨g, 0, none⟩) m cap, .int .i64 (2 * (i : Int) + 1 + 1), .int .i64 (i : Int)] (wr.drewN q) fun e w' => e = .returned (.bool (decide (el hs' (2 * i + 1 + 1) < el hs' i))) ∧ ∃ q2, w' = wr.drewN q2) := by have h9 := fun q => hLessD (B := B) q hO.out HLN.out hm (i := 2 * i + 1 + 1) (j := i) hcm him; rw [ec] at h9; exact h9
          have HL1 : Hid (Calls Tryz.prog 113 #[.slice (some ⟨g, 0, none⟩) m cap, .int .i64 (2 * (i : Int) + 1 + 1), .int .i64 (2 * (i : Int) + 1)] wr fun e w' => e = .returned (.bool true) ∧ ∃ q2, w' = wr.drewN q2) := by have h9 := hLessD (B := B) 0 hO.out HLN.out hm (i := 2 * i + 1 + 1) (j := 2 * i + 1) (by omega) (by omega); rw [show ((2 * i + 1 + 1 : Nat) : Int) = 2 * (i : Int) + 1 + 1 by omega, show ((2 * i + 1 : Nat) : Int) = 2 * (i : Int) + 1 by omega] at h9; rw [decide_eq_true hr] at h9; exact h9
          have HSW : Hid (∀ q, Calls Tryz.prog 114 #[.slice (some ⟨g, 0, none⟩) m cap, .int .i64 (i : Int), .int .i64 (2 * (i : Int) + 1 + 1)] (wr.drewN q) fun e w' => e = .returned (.tuple #[]) ∧ w'.ownsRow base 3 1 (.slice (some ⟨g, 0, none⟩) m cap) m ((swpL hs' i (2 * i + 1 + 1)).flatMap encI1) ∧ Blk w' B #[.slice (some ⟨g, 0, none⟩) m cap] 95 ∧ (wr.drewN q).grownBy w' (some g)) := by have h9 := fun q => hSwap (B := B) (w := wr.drewN q) ⟨hO.out.1, hO.out.2⟩ (hB.out.drewN q) HLN.out hm (i := i) (j := 2 * i + 1 + 1) him hcm; rw [ec] at h9; exact h9
          by_cases hlt : el hs' (2 * i + 1 + 1) < el hs' i
          · rw [decide_eq_true hlt] at HL2
            have HD2 : Hid (DownL (swpL hs' i (2 * i + 1 + 1)) (2 * i + 1 + 1) n ∧ (swpL hs' i (2 * i + 1 + 1)).length = m ∧ (swpL hs' i (2 * i + 1 + 1)).Perm hs ∧ (swpL hs' i (2 * i + 1 + 1)).drop n = hs.drop n) := ⟨hD.out.1.swap (by rw [HLN.out]; omega) LC.out hlt, by rw [swp_length]; exact HLN.out, (swp_perm (by rw [HLN.out]; exact him) (by rw [HLN.out]; exact hcm)).trans hD.out.2.2.1, (swp_drop (by omega) (by omega)).trans hD.out.2.2.2⟩
            clear hlt LC hD hr
            go_wp2_with (first
              | (go_at_call 113; (with_reducible refine HL1.out.mono ?_); rintro e w' ⟨rfl, q1, rfl⟩)
              | (go_at_call 113; (with_reducible refine (HL2.out _).mono ?_); rintro e w' ⟨rfl, q, rfl⟩)
              | (go_at_call 114; refine (HSW.out _).mono ?_; rintro e w' ⟨rfl, ho2, hb2, hg2⟩; have HO2 : Hid (w'.ownsRow base 3 1 (.slice (some ⟨g, 0, none⟩) m cap) m ((swpL hs' i (2 * i + 1 + 1)).flatMap encI1)) := ho2; have HB2 : Hid (Blk w' B #[.slice (some ⟨g, 0, none⟩) m cap] 95) := hb2; have HG2 : Hid (w.grownBy w' (some g)) := gTrans (gTrans hg.out (gNew (belowDN wr q))) hg2; clear ho2 hb2 hg2))
            go_roundw
            case rel => exact ⟨2 * i + 1 + 1, swpL hs' i (2 * i + 1 + 1), by rw [ec], hcm, HD2, HO2, HB2, HG2⟩
            case measure => simp [intOf]; omega
          · rw [decide_eq_false hlt] at HL2
            have HH : Hid (HeapL hs' n) := hD.out.1.stop LC.out hlt
            clear hlt LC hr
            go_wp2_with (first
              | (go_at_call 113; (with_reducible refine HL1.out.mono ?_); rintro e w' ⟨rfl, q1, rfl⟩)
              | (go_at_call 113; (with_reducible refine (HL2.out _).mono ?_); rintro e w' ⟨rfl, q, rfl⟩))
            go_ret
            exact ⟨⟨_, rfl⟩, hs', HH.out, hD.out.2.2.1, hD.out.2.2.2, ⟨hO.out.1, hO.out.2⟩, hB.out.drewN q, gTrans hg.out (gNew (belowDN wr q))⟩
        · skip
          have hcm : 2 * i + 1 < m := by omega
          have ec : ((2 * i + 1 : Nat) : Int) = 2 * (i : Int) + 1 := by omega
          have LC : Hid (LowC hs' i n (2 * i + 1)) := LowC.left (by omega) (fun _ => hr)
          have HL2 : Hid (∀ q, Calls Tryz.prog 113 #[.slice (some ⟨g, 0, none⟩) m cap, .int .i64 (2 * (i : Int) + 1), .int .i64 (i : Int)] (wr.drewN q) fun e w' => e = .returned (.bool (decide (el hs' (2 * i + 1) < el hs' i))) ∧ ∃ q2, w' = wr.drewN q2) := by have h9 := fun q => hLessD (B := B) q hO.out HLN.out hm (i := 2 * i + 1) (j := i) hcm him; rw [ec] at h9; exact h9
          have HL1 : Hid (Calls Tryz.prog 113 #[.slice (some ⟨g, 0, none⟩) m cap, .int .i64 (2 * (i : Int) + 1 + 1), .int .i64 (2 * (i : Int) + 1)] wr fun e w' => e = .returned (.bool false) ∧ ∃ q2, w' = wr.drewN q2) := by have h9 := hLessD (B := B) 0 hO.out HLN.out hm (i := 2 * i + 1 + 1) (j := 2 * i + 1) (by omega) (by omega); rw [show ((2 * i + 1 + 1 : Nat) : Int) = 2 * (i : Int) + 1 + 1 by omega, show ((2 * i + 1 : Nat) : Int) = 2 * (i : Int) + 1 by omega] at h9; rw [decide_eq_false hr] at h9; exact h9
          have HSW : Hid (∀ q, Calls Tryz.prog 114 #[.slice (some ⟨g, 0, none⟩) m cap, .int .i64 (i : Int), .int .i64 (2 * (i : Int) + 1)] (wr.drewN q) fun e w' => e = .returned (.tuple #[]) ∧ w'.ownsRow base 3 1 (.slice (some ⟨g, 0, none⟩) m cap) m ((swpL hs' i (2 * i + 1)).flatMap encI1) ∧ Blk w' B #[.slice (some ⟨g, 0, none⟩) m cap] 95 ∧ (wr.drewN q).grownBy w' (some g)) := by have h9 := fun q => hSwap (B := B) (w := wr.drewN q) ⟨hO.out.1, hO.out.2⟩ (hB.out.drewN q) HLN.out hm (i := i) (j := 2 * i + 1) him hcm; rw [ec] at h9; exact h9
          by_cases hlt : el hs' (2 * i + 1) < el hs' i
          · rw [decide_eq_true hlt] at HL2
            have HD2 : Hid (DownL (swpL hs' i (2 * i + 1)) (2 * i + 1) n ∧ (swpL hs' i (2 * i + 1)).length = m ∧ (swpL hs' i (2 * i + 1)).Perm hs ∧ (swpL hs' i (2 * i + 1)).drop n = hs.drop n) := ⟨hD.out.1.swap (by rw [HLN.out]; omega) LC.out hlt, by rw [swp_length]; exact HLN.out, (swp_perm (by rw [HLN.out]; exact him) (by rw [HLN.out]; exact hcm)).trans hD.out.2.2.1, (swp_drop (by omega) (by omega)).trans hD.out.2.2.2⟩
            clear hlt LC hD hr
            go_wp2_with (first
              | (go_at_call 113; (with_reducible refine HL1.out.mono ?_); rintro e w' ⟨rfl, q1, rfl⟩)
              | (go_at_call 113; (with_reducible refine (HL2.out _).mono ?_); rintro e w' ⟨rfl, q, rfl⟩)
              | (go_at_call 114; refine (HSW.out _).mono ?_; rintro e w' ⟨rfl, ho2, hb2, hg2⟩; have HO2 : Hid (w'.ownsRow base 3 1 (.slice (some ⟨g, 0, none⟩) m cap) m ((swpL hs' i (2 * i + 1)).flatMap encI1)) := ho2; have HB2 : Hid (Blk w' B #[.slice (some ⟨g, 0, none⟩) m cap] 95) := hb2; have HG2 : Hid (w.grownBy w' (some g)) := gTrans (gTrans hg.out (gNew (belowDN wr q))) hg2; clear ho2 hb2 hg2))
            go_roundw
            case rel => exact ⟨2 * i + 1, swpL hs' i (2 * i + 1), by rw [ec], hcm, HD2, HO2, HB2, HG2⟩
            case measure => simp [intOf]; omega
          · rw [decide_eq_false hlt] at HL2
            have HH : Hid (HeapL hs' n) := hD.out.1.stop LC.out hlt
            clear hlt LC hr
            go_wp2_with (first
              | (go_at_call 113; (with_reducible refine HL1.out.mono ?_); rintro e w' ⟨rfl, q1, rfl⟩)
              | (go_at_call 113; (with_reducible refine (HL2.out _).mono ?_); rintro e w' ⟨rfl, q, rfl⟩))
            go_ret
            exact ⟨⟨_, rfl⟩, hs', HH.out, hD.out.2.2.1, hD.out.2.2.2, ⟨hO.out.1, hO.out.2⟩, hB.out.drewN q, gTrans hg.out (gNew (belowDN wr q))⟩
      · have h2z : ¬ 2 * (i : Int) + 1 + 1 < (n : Int) := by omega
        have h2d : decide (2 * (i : Int) + 1 + 1 < (n : Int)) = false := decide_eq_false h2z
        have hr : True := trivial
        have hcm : 2 * i + 1 < m := by omega
        have ec : ((2 * i + 1 : Nat) : Int) = 2 * (i : Int) + 1 := by omega
        have LC : Hid (LowC hs' i n (2 * i + 1)) := LowC.left (by omega) (fun h => absurd h h2)
        have HL2 : Hid (∀ q, Calls Tryz.prog 113 #[.slice (some ⟨g, 0, none⟩) m cap, .int .i64 (2 * (i : Int) + 1), .int .i64 (i : Int)] (wr.drewN q) fun e w' => e = .returned (.bool (decide (el hs' (2 * i + 1) < el hs' i))) ∧ ∃ q2, w' = wr.drewN q2) := by have h9 := fun q => hLessD (B := B) q hO.out HLN.out hm (i := 2 * i + 1) (j := i) hcm him; rw [ec] at h9; exact h9
        have HSW : Hid (∀ q, Calls Tryz.prog 114 #[.slice (some ⟨g, 0, none⟩) m cap, .int .i64 (i : Int), .int .i64 (2 * (i : Int) + 1)] (wr.drewN q) fun e w' => e = .returned (.tuple #[]) ∧ w'.ownsRow base 3 1 (.slice (some ⟨g, 0, none⟩) m cap) m ((swpL hs' i (2 * i + 1)).flatMap encI1) ∧ Blk w' B #[.slice (some ⟨g, 0, none⟩) m cap] 95 ∧ (wr.drewN q).grownBy w' (some g)) := by have h9 := fun q => hSwap (B := B) (w := wr.drewN q) ⟨hO.out.1, hO.out.2⟩ (hB.out.drewN q) HLN.out hm (i := i) (j := 2 * i + 1) him hcm; rw [ec] at h9; exact h9
        by_cases hlt : el hs' (2 * i + 1) < el hs' i
        · rw [decide_eq_true hlt] at HL2
          have HL20 : Hid (Calls Tryz.prog 113 #[.slice (some ⟨g, 0, none⟩) m cap, .int .i64 (2 * (i : Int) + 1), .int .i64 (i : Int)] wr fun e w' => e = .returned (.bool true) ∧ ∃ q2, w' = wr.drewN q2) := HL2.out 0
          have HD2 : Hid (DownL (swpL hs' i (2 * i + 1)) (2 * i + 1) n ∧ (swpL hs' i (2 * i + 1)).length = m ∧ (swpL hs' i (2 * i + 1)).Perm hs ∧ (swpL hs' i (2 * i + 1)).drop n = hs.drop n) := ⟨hD.out.1.swap (by rw [HLN.out]; omega) LC.out hlt, by rw [swp_length]; exact HLN.out, (swp_perm (by rw [HLN.out]; exact him) (by rw [HLN.out]; exact hcm)).trans hD.out.2.2.1, (swp_drop (by omega) (by omega)).trans hD.out.2.2.2⟩
          clear hlt LC hD hr
          go_wp2_with (first
            | (go_at_call 113; refine HL20.out.mono ?_; rintro e w' ⟨rfl, q, rfl⟩)
            | (go_at_call 114; refine (HSW.out _).mono ?_; rintro e w' ⟨rfl, ho2, hb2, hg2⟩; have HO2 : Hid (w'.ownsRow base 3 1 (.slice (some ⟨g, 0, none⟩) m cap) m ((swpL hs' i (2 * i + 1)).flatMap encI1)) := ho2; have HB2 : Hid (Blk w' B #[.slice (some ⟨g, 0, none⟩) m cap] 95) := hb2; have HG2 : Hid (w.grownBy w' (some g)) := gTrans (gTrans hg.out (gNew (belowDN wr q))) hg2; clear ho2 hb2 hg2))
          go_roundw
          case rel => exact ⟨2 * i + 1, swpL hs' i (2 * i + 1), by rw [ec], hcm, HD2, HO2, HB2, HG2⟩
          case measure => simp [intOf]; omega
        · rw [decide_eq_false hlt] at HL2
          have HL20 : Hid (Calls Tryz.prog 113 #[.slice (some ⟨g, 0, none⟩) m cap, .int .i64 (2 * (i : Int) + 1), .int .i64 (i : Int)] wr fun e w' => e = .returned (.bool false) ∧ ∃ q2, w' = wr.drewN q2) := HL2.out 0
          have HH : Hid (HeapL hs' n) := hD.out.1.stop LC.out hlt
          clear hlt LC hr
          go_wp2_with (first
            | (go_at_call 113; refine HL20.out.mono ?_; rintro e w' ⟨rfl, q, rfl⟩))
          go_ret
          exact ⟨⟨_, rfl⟩, hs', HH.out, hD.out.2.2.1, hD.out.2.2.2, ⟨hO.out.1, hO.out.2⟩, hB.out.drewN q, gTrans hg.out (gNew (belowDN wr q))⟩
end Go.Proofs.YtfekmlblldhieaaGreatDoor.Wt
namespace Go.Proofs.YtfekmlblldhieaaGreatDoor.Wt
open Go.ChangeShapes Go.WideShapes Go.ChangeAt Go.RowKit
open Go.Proofs.YtfekmlblldhieaaGreatDoor.Pl
set_option linter.unusedVariables false
set_option linter.unusedSimpArgs false
set_option maxRecDepth 100000 in
set_option maxHeartbeats 3200000 in
theorem hPush_any (B base : Nat) (v : Value) (hs : List Int) (q : Int) (w : World) (hB : Blk w B #[v] 95) (hown : w.ownsRow base 3 1 v hs.length (hs.flatMap encI1)) (hbase : base ≤ w.heap.size) (hn : hs.length ≤ 900) (hH : HeapL hs hs.length) :
    Calls Tryz.prog 46 #[.iface 97 (.pointer (some ⟨B, 0, none⟩)), .iface 3 (.int .i64 q)] w fun e w' => e = .returned (.tuple #[]) ∧ ∃ v' hs', HeapL hs' hs'.length ∧ hs'.Perm (hs ++ [q]) ∧ Blk w' B #[v'] 95 ∧ w'.ownsRow base 3 1 v' hs'.length (hs'.flatMap encI1) ∧ Near w v.ownBlock v' ∧ Turn2 w w' B v.ownBlock := by
  have HP : Hid (Calls Tryz.prog 116 #[.pointer (some ⟨B, 0, none⟩), .iface 3 (.int .i64 q)] w fun e w' => e = .returned (.tuple #[]) ∧ ∃ v', Blk w' B #[v'] 95 ∧ w'.ownsRow base 3 1 v' (hs ++ [q]).length ((hs ++ [q]).flatMap encI1) ∧ Near w v.ownBlock v' ∧ Turn2 w w' B v.ownBlock) := rPush_any B base v hs q w hB hown hbase (by omega)
  have HU : Hid (UpL (hs ++ [q]) hs.length) := UpL.start hH q
  have HL : Hid ((hs ++ [q]).length = hs.length + 1) := by simp [Hid]
  have mP := meth_push B w
  generalize hs ++ [q] = hq at *
  generalize hs.length = n at *
  clear hB hown hH
  generalize v.ownBlock = r at *
  go_enter Tryz.func46, Tryz.ntmps46
  go_wp2_with (first
    | (go_at_call 116; (with_reducible refine HP.out.mono ?_); rintro e w1 ⟨rfl, v1, hb1, ho1, hn1, ht1⟩; obtain ⟨g1, cap1, hv1, _, _, _⟩ := own_some ho1 (by rw [HL.out]; omega); subst hv1; rw [HL.out] at ho1 hb1 hn1; have HB1 : Hid (Blk w1 B #[.slice (some ⟨g1, 0, none⟩) (n + 1) cap1] 95) := hb1; have HO1 : Hid (w1.ownsRow base 3 1 (.slice (some ⟨g1, 0, none⟩) (n + 1) cap1) (n + 1) (hq.flatMap encI1)) := ho1; have HN1 : Hid (Near w r (.slice (some ⟨g1, 0, none⟩) (n + 1) cap1)) := hn1; have HT1 : Hid (Turn2 w w1 B r) := ht1; have mN := meth_len (hb1.cell 0 (v := .slice (some ⟨g1, 0, none⟩) (n + 1) cap1) rfl); clear hb1 ho1 hn1 ht1)
    | (go_at_call 47; (with_reducible refine (rLen_any _ _ _ _).mono ?_); rintro e w2 ⟨rfl, rfl⟩)
    | (go_at_call 62; (with_reducible refine (up_any B base g1 (n + 1) cap1 hq n _ HB1.out HO1.out HL.out (by omega) HU.out (by omega)).mono ?_); rintro e w3 ⟨rfl, hs3, hh3, hp3, ho3, hb3, hg3⟩))
  go_end0
  have hl3 : hs3.length = n + 1 := by rw [hp3.length_eq]; exact HL.out
  refine ⟨rfl, _, hs3, by rw [hl3]; exact hh3, hp3, hb3, by rw [hl3]; exact ho3, HN1.out, HT1.out.trans (Turn2.grown hg3 B) ?_⟩
  rcases HN1.out with e | ⟨c, e, hc⟩
  · exact .inl e
  · exact .inr ⟨c, e, hc⟩
set_option maxRecDepth 100000 in
set_option maxHeartbeats 3200000 in
theorem hPop_any (B base : Nat) (v : Value) (hs : List Int) (w : World) (hB : Blk w B #[v] 95) (hown : w.ownsRow base 3 1 v hs.length (hs.flatMap encI1)) (h0 : 0 < hs.length) (hn : hs.length ≤ 900) (hH : HeapL hs hs.length) :
    Calls Tryz.prog 48 #[.iface 97 (.pointer (some ⟨B, 0, none⟩))] w fun e w' => ∃ x, e = .returned (.iface 3 (.int .i64 x)) ∧ ∃ v' hs', HeapL hs' hs'.length ∧ (x :: hs').Perm hs ∧ (∀ y ∈ hs', x ≤ y) ∧ Blk w' B #[v'] 95 ∧ w'.ownsRow base 3 1 v' hs'.length (hs'.flatMap encI1) ∧ v'.ownBlock = v.ownBlock ∧ Turn2 w w' B v.ownBlock := by
  obtain ⟨n, hl⟩ : ∃ n, hs.length = n + 1 := ⟨hs.length - 1, by omega⟩
  rw [hl] at hown
  obtain ⟨g, cap, hv, _, _, _⟩ := own_some hown (by omega)
  subst hv
  have HLN : Hid (hs.length = n + 1) := hl
  have HH : Hid (HeapL hs hs.length) := hH
  have mN := meth_len (hB.cell 0 (v := .slice (some ⟨g, 0, none⟩) (n + 1) cap) rfl)
  have mS := meth_swap (hB.cell 0 (v := .slice (some ⟨g, 0, none⟩) (n + 1) cap) rfl)
  have HSW : Hid (Calls Tryz.prog 114 #[.slice (some ⟨g, 0, none⟩) (n + 1) cap, .int .i64 0, .int .i64 (n : Int)] w fun e w' => e = .returned (.tuple #[]) ∧ w'.ownsRow base 3 1 (.slice (some ⟨g, 0, none⟩) (n + 1) cap) (n + 1) ((swpL hs 0 n).flatMap encI1) ∧ Blk w' B #[.slice (some ⟨g, 0, none⟩) (n + 1) cap] 95 ∧ w.grownBy w' (some g)) := hSwap (B := B) hown hB hl (by omega) (i := 0) (j := n) (by omega) (by omega)
  have HD : Hid (DownL (swpL hs 0 n) 0 n) := DownL.start hH hl
  have HLS : Hid ((swpL hs 0 n).length = n + 1) := by show _ = _; rw [swp_length]; exact hl
  have mP := meth_pop B
  have h9 : n ≤ 900 := by omega
  clear hB hown hH hl hn h0
  generalize hsw : swpL hs 0 n = hq at *
  have HSQ : Hid (swpL hs 0 n = hq) := hsw
  clear hsw
  go_enter Tryz.func48, Tryz.ntmps48
  go_wp2_with (first
    | (go_at_call 47; (with_reducible refine (rLen_any _ _ _ _).mono ?_); rintro e w2 ⟨rfl, rfl⟩)
    | (go_at_call 114; (with_reducible refine HSW.out.mono ?_); rintro e w1 ⟨rfl, ho1, hb1, hg1⟩; have HO1 : Hid (w1.ownsRow base 3 1 (.slice (some ⟨g, 0, none⟩) (n + 1) cap) (n + 1) (hq.flatMap encI1)) := ho1; have HB1 : Hid (Blk w1 B #[.slice (some ⟨g, 0, none⟩) (n + 1) cap] 95) := hb1; have HG1 : Hid (w2.grownBy w1 (some g)) := hg1; clear ho1 hb1 hg1)
    | (go_at_call 63; (with_reducible refine (down_any B base g (n + 1) cap n hq _ HB1.out HO1.out HLS.out (by omega) (by omega) HD.out).mono ?_); rintro e w3 ⟨⟨b3, rfl⟩, hs3, hh3, hp3, hd3, ho3, hb3, hg3⟩; have HO3 : Hid (w3.ownsRow base 3 1 (.slice (some ⟨g, 0, none⟩) (n + 1) cap) hs3.length (hs3.flatMap encI1)) := (by show World.ownsRow _ _ _ _ _ _ _; rw [hp3.length_eq, HLS.out]; exact ho3); have HB3 : Hid (Blk w3 B #[.slice (some ⟨g, 0, none⟩) (n + 1) cap] 95) := hb3; have HG3 : Hid (w1.grownBy w3 (some g)) := hg3; have HF3 : Hid (HeapL hs3 n ∧ hs3.Perm hq ∧ hs3.drop n = hq.drop n) := ⟨hh3, hp3, hd3⟩; clear hh3 hp3 hd3 ho3 hb3 hg3)
    | (go_at_call 115; (with_reducible refine (rPop_any B base _ hs3 n _ HB3.out HO3.out (by rw [HF3.out.2.1.length_eq, HLS.out]) (by omega)).mono ?_); rintro e w4 ⟨rfl, v4, hb4, ho4, hr4, ht4⟩))
  have hpf := pop_facts HH.out HLN.out (by rw [HSQ.out]; exact HF3.out.2.1) (by rw [HSQ.out]; exact HF3.out.2.2) HF3.out.1
  have hl4 : (hs3.take n).length = n := by rw [List.length_take, HF3.out.2.1.length_eq, HLS.out]; omega
  go_ret
  refine ⟨_, rfl, v4, hs3.take n, by rw [hl4]; exact hpf.2.1, by rw [hpf.1]; exact hpf.2.2.1, by rw [hpf.1]; exact hpf.2.2.2, hb4, by rw [hl4]; exact ho4, hr4, ?_⟩
  exact (Turn2.grown (gTrans HG1.out HG3.out) B).trans ht4 (.inl rfl)
end Go.Proofs.YtfekmlblldhieaaGreatDoor.Wt
