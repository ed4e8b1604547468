/- What is answered lies in memory of the call's own (no function in sight). -/
import Derived.Test.YthajkkobgfighaaGreatDoorJan
import Derived.Test.YthajkkobgfighaaGreatDoorJac
import Derived.Test.YthajkkobgfighaaGreatDoorJaa
import Derived.Test.YthajkkobgfighaaGreatDoorJao
import Derived.Test.YthajkkobgfighaaGreatDoorJab
namespace Go.Proofs.YthajkkobgfighaaGreatDoor.Wt
open Go.ChangeShapes Go.WideShapes Go.ChangeAt Go.RowKit
open Go.Proofs.YthajkkobgfighaaGreatDoor.Pl
set_option linter.unusedVariables false
def StyM (w : World) (B : Nat) (v : Value) (x : Mc) : Prop := (x.2 = [] ∧ Mach w v x) ∨ ∃ vs, v = .agg #[.int .i64 x.1, vs] ∧ OwnSts w B vs x.2
theorem StyM.mach {w : World} {B : Nat} {v : Value} {x : Mc} (h : StyM w B v x) : Mach w v x := by
 rcases h with ⟨_, h⟩ | ⟨vs, rfl, h⟩
 ·exact h
 ·exact ⟨_, rfl, h.sts⟩
theorem StyM.later {w w' : World} {B : Nat} {v : Value} {x : Mc} (h : StyM w B v x) (hb : Below w.heap.size w w') : StyM w' B v x := by
 rcases h with ⟨h0, h⟩ | ⟨vs, rfl, h⟩
 ·exact .inl ⟨h0, h.later hb (Nat.le_refl _)⟩
 ·exact .inr ⟨vs, rfl, h.laterB hb⟩
theorem StyM.mono {w : World} {B B' : Nat} {v : Value} {x : Mc} (h : StyM w B v x) (hb : B' ≤ B) : StyM w B' v x := by
 rcases h with h | ⟨vs, rfl, h⟩
 ·exact .inl h
 ·exact .inr ⟨vs, rfl, h.monoB hb⟩
def RatOwn (x : Mc) (ec : Int) (w : World) (e : Ending) (w' : World) : Prop := ∃ v, e = .returned (.tuple #[v, .int .i64 ec]) ∧ StyM w' w.heap.size v x ∧ Below w.heap.size w w'
theorem RatOwn.res {x : Mc} {ec : Int} {w w' : World} {e : Ending} (h : RatOwn x ec w e w') : RatRes x ec w e w' := by
 obtain ⟨v, he, hs, hb⟩ := h
 exact ⟨v, he, hs.mach, hb⟩
def PshOwn (Q : Mc → Int → Int → Prop) (w : World) (e : Ending) (w' : World) : Prop := ∃ v x, ∃ t ec : Int, e = .returned (.tuple #[v, .int .i64 t, .int .i64 ec]) ∧ Q x t ec ∧ StyM w' w.heap.size v x ∧ Below w.heap.size w w'
theorem PshOwn.res {Q : Mc → Int → Int → Prop} {w w' : World} {e : Ending} (h : PshOwn Q w e w') : PshRes Q w e w' := by
 obtain ⟨v, x, t, ec, he, hq, hs, hb⟩ := h
 exact ⟨v, x, t, ec, he, hq, hs.mach, hb⟩
end Go.Proofs.YthajkkobgfighaaGreatDoor.Wt
namespace Go.Proofs.YthajkkobgfighaaGreatDoor.Pl
def aheadB (a b : Ar) : Bool := if a.1 = b.1 then (if a.2.1 = b.2.1 then (if a.2.2.2 = b.2.2.2 then decide (a.2.2.1 < b.2.2.1) else decide (a.2.2.2 < b.2.2.2)) else decide (a.2.1 < b.2.1)) else decide (a.1 < b.1)
theorem aheadB_iff {a b : Ar} : aheadB a b = true ↔ (a.1 < b.1 ∨ a.1 = b.1 ∧ (a.2.1 < b.2.1 ∨ a.2.1 = b.2.1 ∧ (a.2.2.2 < b.2.2.2 ∨ a.2.2.2 = b.2.2.2 ∧ a.2.2.1 < b.2.2.1))) := by
 unfold aheadB
 repeat' split
 all_goals (simp only [decide_eq_true_eq]; omega)
theorem aheadB_false {a b : Ar} : aheadB a b = false ↔ ¬ (a.1 < b.1 ∨ a.1 = b.1 ∧ (a.2.1 < b.2.1 ∨ a.2.1 = b.2.1 ∧ (a.2.2.2 < b.2.2.2 ∨ a.2.2.2 = b.2.2.2 ∧ a.2.2.1 < b.2.2.1))) := by
 rw [← aheadB_iff]; simp
theorem ahead_trans {a b c : Ar} (h1 : aheadB b a = false) (h2 : aheadB c b = false) : aheadB c a = false := by
 rw [aheadB_false] at *
 omega
def cmpI (a b : Int) : Int := if a < b then -1 else if b < a then 1 else 0
def orI (c0 c1 c2 c3 : Int) : Int := if c0 = 0 then (if c1 = 0 then (if c2 = 0 then c3 else c2) else c1) else c0
theorem orI_neg (a b : Ar) : decide (orI (cmpI a.1 b.1) (cmpI a.2.1 b.2.1) (cmpI a.2.2.2 b.2.2.2) (cmpI a.2.2.1 b.2.2.1) < 0) = aheadB a b := by
 rw [Bool.eq_iff_iff, aheadB_iff, decide_eq_true_eq]
 unfold orI cmpI
 repeat' split
 all_goals omega
def sortB (l : List Ar) : Bool := (List.range (l.length - 1)).all fun i => !aheadB (el l (i + 1)) (el l i)
def ordB (l : List Ar) : Bool := (List.range l.length).all fun k => (List.range k).all fun j => !aheadB (el l k) (el l j)
theorem sortB_iff {l : List Ar} : sortB l = true ↔ ∀ i, i + 1 < l.length → aheadB (el l (i + 1)) (el l i) = false := by
 simp only [sortB, List.all_eq_true, List.mem_range, Bool.not_eq_true']
 exact ⟨fun h i hi => h i (by omega), fun h i hi => h i (by omega)⟩
theorem ordB_iff {l : List Ar} : ordB l = true ↔ ∀ k, k < l.length → ∀ j, j < k → aheadB (el l k) (el l j) = false := by
 simp only [ordB, List.all_eq_true, List.mem_range, Bool.not_eq_true']
theorem ordB_sortB (l : List Ar) : ordB l = sortB l := by
  rw [Bool.eq_iff_iff, ordB_iff, sortB_iff]
  constructor
  · intro h i hi
    exact h (i + 1) hi i (by omega)
  · intro h k
    induction k with
    | zero => intro _ j hj; omega
    | succ k ih =>
      intro hk j hj
      by_cases e : j = k
      · subst e; exact h j hk
      · exact ahead_trans (ih (by omega) j (by omega)) (h k hk)
def pairB (a b : Ar) : Bool := decide (a.1 = b.1) && decide (a.2.1 = b.2.1)
def onceB (l : List Ar) : Bool := (List.range l.length).all fun k => (List.range k).all fun j => !pairB (el l k) (el l j)
theorem onceB_iff {l : List Ar} : onceB l = true ↔ ∀ k, k < l.length → ∀ j, j < k → pairB (el l k) (el l j) = false := by
 simp only [onceB, List.all_eq_true, List.mem_range, Bool.not_eq_true']
theorem pairB_iff {a b : Ar} : pairB a b = true ↔ a.1 = b.1 ∧ a.2.1 = b.2.1 := by simp [pairB]
theorem ret_int3 {k : IntKind} {a b : Int} (h : a = b) : Ending.returned (.int k a) = .returned (.int k b) := by rw [h]
end Go.Proofs.YthajkkobgfighaaGreatDoor.Pl
namespace Go.Proofs.YthajkkobgfighaaGreatDoor.Wt
open Go.ChangeShapes Go.WideShapes Go.ChangeAt Go.RowKit
open Go.Proofs.YthajkkobgfighaaGreatDoor.Pl
set_option linter.unusedVariables false
set_option linter.unusedSimpArgs false
theorem compare_any (a b : Int) (w : World) : Calls Tryz.prog 87 #[.int .i64 a, .int .i64 b] w fun e w' => e = .returned (.int .i64 (cmpI a b)) ∧ w = w' := by
 unfold cmpI
 by_cases h1 : a < b
 ·go_enter Tryz.func87, Tryz.ntmps87
  go_wp2_with (first | (go_at_call 106; go_in))
  go_ret
  exact ⟨rfl, rfl⟩
 ·by_cases h2 : b < a
  ·go_enter Tryz.func87, Tryz.ntmps87
   go_wp2_with (first | (go_at_call 106; go_in))
   go_ret
   exact ⟨rfl, rfl⟩
  ·go_enter Tryz.func87, Tryz.ntmps87
   go_wp2_with (first | (go_at_call 106; go_in))
   go_ret
   exact ⟨rfl, rfl⟩
theorem or_any (c0 c1 c2 c3 : Int) (b : Nat) (w : World) (h0 : w.cell? ⟨b, 0, none⟩ = some (.int .i64 c0)) (h1 : w.cell? ⟨b, 1, none⟩ = some (.int .i64 c1)) (h2 : w.cell? ⟨b, 2, none⟩ = some (.int .i64 c2)) (h3 : w.cell? ⟨b, 3, none⟩ = some (.int .i64 c3)) :
  Calls Tryz.prog 101 #[.slice (some ⟨b, 0, none⟩) 4 4] w fun e w' => e = .returned (.int .i64 (orI c0 c1 c2 c3)) ∧ w = w' := by
 unfold orI
 by_cases e0 : c0 = 0
 ·by_cases e1 : c1 = 0
  ·by_cases e2 : c2 = 0
   ·by_cases e3 : c3 = 0
    ·subst e0 e1 e2 e3
     go_enter Tryz.func101, Tryz.ntmps101
     go_wp2
     refine wp_loop_rounds 5 ?_; rw [rounds_succ]
     go_wp2
     rw [rounds_succ]
     go_wp2
     rw [rounds_succ]
     go_wp2
     rw [rounds_succ]
     go_wp2
     rw [rounds_succ]
     go_wp2
     go_ret
     exact ⟨rfl, rfl⟩
    ·have hne : (c3 != 0) = true := by simpa using e3
     subst e0 e1 e2
     go_enter Tryz.func101, Tryz.ntmps101
     go_wp2
     refine wp_loop_rounds 5 ?_; rw [rounds_succ]
     go_wp2
     rw [rounds_succ]
     go_wp2
     rw [rounds_succ]
     go_wp2
     rw [rounds_succ]
     go_wp2
     go_ret
     exact ⟨rfl, rfl⟩
   ·have hne : (c2 != 0) = true := by simpa using e2
    subst e0 e1
    go_enter Tryz.func101, Tryz.ntmps101
    go_wp2
    refine wp_loop_rounds 5 ?_; rw [rounds_succ]
    go_wp2
    rw [rounds_succ]
    go_wp2
    rw [rounds_succ]
    go_wp2
    go_ret
    exact ⟨ret_int3 (by simp [e2]), rfl⟩
  ·have hne : (c1 != 0) = true := by simpa using e1
   subst e0
   go_enter Tryz.func101, Tryz.ntmps101
   go_wp2
   refine wp_loop_rounds 5 ?_; rw [rounds_succ]
   go_wp2
   rw [rounds_succ]
   go_wp2
   go_ret
   exact ⟨ret_int3 (by simp [e1]), rfl⟩
 ·have hne : (c0 != 0) = true := by simpa using e0
  go_enter Tryz.func101, Tryz.ntmps101
  go_wp2
  refine wp_loop_rounds 5 ?_; rw [rounds_succ]
  go_wp2
  go_ret
  exact ⟨ret_int3 (by simp [e0]), rfl⟩
def HeldI (B : Nat) (a0 a1 a2 a3 b0 b1 b2 b3 : Int) (w : World) : Prop :=
 Blk w B #[.int .i64 a0, .int .i64 a1, .int .i64 a2, .int .i64 a3] 48 ∧ Blk w (B + 1) #[.int .i64 b0, .int .i64 b1, .int .i64 b2, .int .i64 b3] 48
set_option maxRecDepth 100000 in
set_option maxHeartbeats 1000000 in
theorem inOrder_any (a b : Ar) (w : World) (r : Int) (hr : orI (cmpI a.1 b.1) (cmpI a.2.1 b.2.1) (cmpI a.2.2.2 b.2.2.2) (cmpI a.2.2.1 b.2.2.1) = r) :
  Calls Tryz.prog 74 #[.agg #[.int .i64 a.1, .int .i64 a.2.1, .int .i64 a.2.2.1, .int .i64 a.2.2.2], .agg #[.int .i64 b.1, .int .i64 b.2.1, .int .i64 b.2.2.1, .int .i64 b.2.2.2]] w fun e w' => e = .returned (.int .i64 r) ∧ Below w.heap.size w w' := by
 obtain ⟨a0, a1, a2, a3⟩ := a
 obtain ⟨b0, b1, b2, b3⟩ := b
 simp only at hr ⊢
 have HR : Hid (orI (cmpI a0 b0) (cmpI a1 b1) (cmpI a3 b3) (cmpI a2 b2) = r) := hr
 clear hr
 go_enter Tryz.func74, Tryz.ntmps74
 go_wp2
 refine region_anyL (HeldI w.heap.size a0 a1 a2 a3 b0 b1 b2 b3) 1000 (by kernel_rfl) ?_
 have hk := Blk.made (w.alloc (.cells #[.int .i64 a0, .int .i64 a1, .int .i64 a2, .int .i64 a3] 48)) #[.int .i64 b0, .int .i64 b1, .int .i64 b2, .int .i64 b3] 48
 simp only [World.size_alloc] at hk
 have HS : HeldI w.heap.size a0 a1 a2 a3 b0 b1 b2 b3 ((w.alloc (.cells #[.int .i64 a0, .int .i64 a1, .int .i64 a2, .int .i64 a3] 48)).alloc (.cells #[.int .i64 b0, .int .i64 b1, .int .i64 b2, .int .i64 b3] 48)).drew := ⟨((Blk.made w _ _).alloc _).drew, hk.drew⟩
 have HU : Below w.heap.size w ((w.alloc (.cells #[.int .i64 a0, .int .i64 a1, .int .i64 a2, .int .i64 a3] 48)).alloc (.cells #[.int .i64 b0, .int .i64 b1, .int .i64 b2, .int .i64 b3] 48)).drew := Below.drew (by go_grown)
 clear hk
 generalize hw0 : ((w.alloc (.cells #[.int .i64 a0, .int .i64 a1, .int .i64 a2, .int .i64 a3] 48)).alloc (.cells #[.int .i64 b0, .int .i64 b1, .int .i64 b2, .int .i64 b3] 48)).drew = w0 at *
 clear hw0
 refine anyL_tk (i := 0) (v := ?v0_1) aZ0 (by kernel_rfl) ?y0_1 HS ?r0_1
 case y0_1 => intro wx hx; have p0 := hx.1.cell 0 rfl; have p1 := hx.1.cell 1 rfl; have p2 := hx.1.cell 2 rfl; have p3 := hx.1.cell 3 rfl; have q0 := hx.2.cell 0 rfl; have q1 := hx.2.cell 1 rfl; have q2 := hx.2.cell 2 rfl; have q3 := hx.2.cell 3 rfl; go_simp; try (with_reducible rfl)
 simp only [Act.put, List.setIfInBounds_toArray, List.set_cons_zero, List.set_cons_succ]
 refine anyL_tk (i := 1) (v := ?v1_2) aZ1 (by kernel_rfl) ?y1_2 HS ?r1_2
 case y1_2 => intro wx hx; have p0 := hx.1.cell 0 rfl; have p1 := hx.1.cell 1 rfl; have p2 := hx.1.cell 2 rfl; have p3 := hx.1.cell 3 rfl; have q0 := hx.2.cell 0 rfl; have q1 := hx.2.cell 1 rfl; have q2 := hx.2.cell 2 rfl; have q3 := hx.2.cell 3 rfl; go_simp; try (with_reducible rfl)
 simp only [Act.put, List.setIfInBounds_toArray, List.set_cons_zero, List.set_cons_succ]
 refine anyL_tk (i := 2) (v := ?v2_3) aZ2 (by kernel_rfl) ?y2_3 HS ?r2_3
 case y2_3 => intro wx hx; have p0 := hx.1.cell 0 rfl; have p1 := hx.1.cell 1 rfl; have p2 := hx.1.cell 2 rfl; have p3 := hx.1.cell 3 rfl; have q0 := hx.2.cell 0 rfl; have q1 := hx.2.cell 1 rfl; have q2 := hx.2.cell 2 rfl; have q3 := hx.2.cell 3 rfl; go_simp; try (with_reducible rfl)
 simp only [Act.put, List.setIfInBounds_toArray, List.set_cons_zero, List.set_cons_succ]
 refine anyL_tk (i := 3) (v := ?v3_4) aZ3 (by kernel_rfl) ?y3_4 HS ?r3_4
 case y3_4 => intro wx hx; have p0 := hx.1.cell 0 rfl; have p1 := hx.1.cell 1 rfl; have p2 := hx.1.cell 2 rfl; have p3 := hx.1.cell 3 rfl; have q0 := hx.2.cell 0 rfl; have q1 := hx.2.cell 1 rfl; have q2 := hx.2.cell 2 rfl; have q3 := hx.2.cell 3 rfl; go_simp; try (with_reducible rfl)
 simp only [Act.put, List.setIfInBounds_toArray, List.set_cons_zero, List.set_cons_succ]
 refine anyL_tk (i := 5) (v := ?v5_5) aZ5 (by kernel_rfl) ?y5_5 HS ?r5_5
 case y5_5 => intro wx hx; have p0 := hx.1.cell 0 rfl; have p1 := hx.1.cell 1 rfl; have p2 := hx.1.cell 2 rfl; have p3 := hx.1.cell 3 rfl; have q0 := hx.2.cell 0 rfl; have q1 := hx.2.cell 1 rfl; have q2 := hx.2.cell 2 rfl; have q3 := hx.2.cell 3 rfl; go_simp; try (with_reducible rfl)
 simp only [Act.put, List.setIfInBounds_toArray, List.set_cons_zero, List.set_cons_succ]
 refine anyL_tk (i := 6) (v := ?v6_6) aZ6 (by kernel_rfl) ?y6_6 HS ?r6_6
 case y6_6 => intro wx hx; have p0 := hx.1.cell 0 rfl; have p1 := hx.1.cell 1 rfl; have p2 := hx.1.cell 2 rfl; have p3 := hx.1.cell 3 rfl; have q0 := hx.2.cell 0 rfl; have q1 := hx.2.cell 1 rfl; have q2 := hx.2.cell 2 rfl; have q3 := hx.2.cell 3 rfl; go_simp; try (with_reducible rfl)
 simp only [Act.put, List.setIfInBounds_toArray, List.set_cons_zero, List.set_cons_succ]
 refine anyL_tk (i := 7) (v := ?v7_7) aZ7 (by kernel_rfl) ?y7_7 HS ?r7_7
 case y7_7 => intro wx hx; have p0 := hx.1.cell 0 rfl; have p1 := hx.1.cell 1 rfl; have p2 := hx.1.cell 2 rfl; have p3 := hx.1.cell 3 rfl; have q0 := hx.2.cell 0 rfl; have q1 := hx.2.cell 1 rfl; have q2 := hx.2.cell 2 rfl; have q3 := hx.2.cell 3 rfl; go_simp; try (with_reducible rfl)
 simp only [Act.put, List.setIfInBounds_toArray, List.set_cons_zero, List.set_cons_succ]
 refine anyL_tk (i := 8) (v := ?v8_8) aZ8 (by kernel_rfl) ?y8_8 HS ?r8_8
 case y8_8 => intro wx hx; have p0 := hx.1.cell 0 rfl; have p1 := hx.1.cell 1 rfl; have p2 := hx.1.cell 2 rfl; have p3 := hx.1.cell 3 rfl; have q0 := hx.2.cell 0 rfl; have q1 := hx.2.cell 1 rfl; have q2 := hx.2.cell 2 rfl; have q3 := hx.2.cell 3 rfl; go_simp; try (with_reducible rfl)
 simp only [Act.put, List.setIfInBounds_toArray, List.set_cons_zero, List.set_cons_succ]
 refine anyL_tk (i := 10) (v := ?v10_9) aZ10 (by kernel_rfl) ?y10_9 HS ?r10_9
 case y10_9 => intro wx hx; have p0 := hx.1.cell 0 rfl; have p1 := hx.1.cell 1 rfl; have p2 := hx.1.cell 2 rfl; have p3 := hx.1.cell 3 rfl; have q0 := hx.2.cell 0 rfl; have q1 := hx.2.cell 1 rfl; have q2 := hx.2.cell 2 rfl; have q3 := hx.2.cell 3 rfl; go_simp; try (with_reducible rfl)
 simp only [Act.put, List.setIfInBounds_toArray, List.set_cons_zero, List.set_cons_succ]
 refine anyL_tk (i := 11) (v := ?v11_10) aZ11 (by kernel_rfl) ?y11_10 HS ?r11_10
 case y11_10 => intro wx hx; have p0 := hx.1.cell 0 rfl; have p1 := hx.1.cell 1 rfl; have p2 := hx.1.cell 2 rfl; have p3 := hx.1.cell 3 rfl; have q0 := hx.2.cell 0 rfl; have q1 := hx.2.cell 1 rfl; have q2 := hx.2.cell 2 rfl; have q3 := hx.2.cell 3 rfl; go_simp; try (with_reducible rfl)
 simp only [Act.put, List.setIfInBounds_toArray, List.set_cons_zero, List.set_cons_succ]
 refine anyL_tk (i := 12) (v := ?v12_11) aZ12 (by kernel_rfl) ?y12_11 HS ?r12_11
 case y12_11 => intro wx hx; have p0 := hx.1.cell 0 rfl; have p1 := hx.1.cell 1 rfl; have p2 := hx.1.cell 2 rfl; have p3 := hx.1.cell 3 rfl; have q0 := hx.2.cell 0 rfl; have q1 := hx.2.cell 1 rfl; have q2 := hx.2.cell 2 rfl; have q3 := hx.2.cell 3 rfl; go_simp; try (with_reducible rfl)
 simp only [Act.put, List.setIfInBounds_toArray, List.set_cons_zero, List.set_cons_succ]
 refine anyL_tk (i := 13) (v := ?v13_12) aZ13 (by kernel_rfl) ?y13_12 HS ?r13_12
 case y13_12 => intro wx hx; have p0 := hx.1.cell 0 rfl; have p1 := hx.1.cell 1 rfl; have p2 := hx.1.cell 2 rfl; have p3 := hx.1.cell 3 rfl; have q0 := hx.2.cell 0 rfl; have q1 := hx.2.cell 1 rfl; have q2 := hx.2.cell 2 rfl; have q3 := hx.2.cell 3 rfl; go_simp; try (with_reducible rfl)
 simp only [Act.put, List.setIfInBounds_toArray, List.set_cons_zero, List.set_cons_succ]
 refine anyL_tk (i := 15) (v := ?v15_13) aZ15 (by kernel_rfl) ?y15_13 HS ?r15_13
 case y15_13 => intro wx hx; have p0 := hx.1.cell 0 rfl; have p1 := hx.1.cell 1 rfl; have p2 := hx.1.cell 2 rfl; have p3 := hx.1.cell 3 rfl; have q0 := hx.2.cell 0 rfl; have q1 := hx.2.cell 1 rfl; have q2 := hx.2.cell 2 rfl; have q3 := hx.2.cell 3 rfl; go_simp; try (with_reducible rfl)
 simp only [Act.put, List.setIfInBounds_toArray, List.set_cons_zero, List.set_cons_succ]
 refine anyL_tk (i := 16) (v := ?v16_14) aZ16 (by kernel_rfl) ?y16_14 HS ?r16_14
 case y16_14 => intro wx hx; have p0 := hx.1.cell 0 rfl; have p1 := hx.1.cell 1 rfl; have p2 := hx.1.cell 2 rfl; have p3 := hx.1.cell 3 rfl; have q0 := hx.2.cell 0 rfl; have q1 := hx.2.cell 1 rfl; have q2 := hx.2.cell 2 rfl; have q3 := hx.2.cell 3 rfl; go_simp; try (with_reducible rfl)
 simp only [Act.put, List.setIfInBounds_toArray, List.set_cons_zero, List.set_cons_succ]
 refine anyL_tk (i := 17) (v := ?v17_15) aZ17 (by kernel_rfl) ?y17_15 HS ?r17_15
 case y17_15 => intro wx hx; have p0 := hx.1.cell 0 rfl; have p1 := hx.1.cell 1 rfl; have p2 := hx.1.cell 2 rfl; have p3 := hx.1.cell 3 rfl; have q0 := hx.2.cell 0 rfl; have q1 := hx.2.cell 1 rfl; have q2 := hx.2.cell 2 rfl; have q3 := hx.2.cell 3 rfl; go_simp; try (with_reducible rfl)
 simp only [Act.put, List.setIfInBounds_toArray, List.set_cons_zero, List.set_cons_succ]
 refine anyL_tk (i := 18) (v := ?v18_16) aZ18 (by kernel_rfl) ?y18_16 HS ?r18_16
 case y18_16 => intro wx hx; have p0 := hx.1.cell 0 rfl; have p1 := hx.1.cell 1 rfl; have p2 := hx.1.cell 2 rfl; have p3 := hx.1.cell 3 rfl; have q0 := hx.2.cell 0 rfl; have q1 := hx.2.cell 1 rfl; have q2 := hx.2.cell 2 rfl; have q3 := hx.2.cell 3 rfl; go_simp; try (with_reducible rfl)
 simp only [Act.put, List.setIfInBounds_toArray, List.set_cons_zero, List.set_cons_succ]
 refine anyL_one (i := 4) aZ4 (by kernel_rfl) rfl (fun K hK => ?_)
 go_simp
 refine (compare_any _ _ _).mono ?_
 rintro e w1 ⟨rfl, rfl⟩
 refine hK _ _ (.inr HS) ?_
 try simp only [Act.put, List.setIfInBounds_toArray, List.set_cons_zero, List.set_cons_succ]
 refine anyL_one (i := 9) aZ9 (by kernel_rfl) rfl (fun K hK => ?_)
 go_simp
 refine (compare_any _ _ _).mono ?_
 rintro e w1 ⟨rfl, rfl⟩
 refine hK _ _ (.inr HS) ?_
 try simp only [Act.put, List.setIfInBounds_toArray, List.set_cons_zero, List.set_cons_succ]
 refine anyL_one (i := 14) aZ14 (by kernel_rfl) rfl (fun K hK => ?_)
 go_simp
 refine (compare_any _ _ _).mono ?_
 rintro e w1 ⟨rfl, rfl⟩
 refine hK _ _ (.inr HS) ?_
 try simp only [Act.put, List.setIfInBounds_toArray, List.set_cons_zero, List.set_cons_succ]
 refine anyL_one (i := 19) aZ19 (by kernel_rfl) rfl (fun K hK => ?_)
 go_simp
 refine (compare_any _ _ _).mono ?_
 rintro e w1 ⟨rfl, rfl⟩
 refine hK _ _ (.inr HS) ?_
 try simp only [Act.put, List.setIfInBounds_toArray, List.set_cons_zero, List.set_cons_succ]
 refine anyL_one (i := 20) aZ20 (by kernel_rfl) rfl (fun K hK => ?_)
 go_simp
 refine hK _ _ (.inr ⟨HS.1.alloc _, HS.2.alloc _⟩) ?_
 try simp only [Act.put, List.setIfInBounds_toArray, List.set_cons_zero, List.set_cons_succ]
 refine anyL_one (i := 21) aZ21 (by kernel_rfl) rfl (fun K hK => ?_)
 go_simp
 refine (or_any (cmpI a0 b0) (cmpI a1 b1) (cmpI a3 b3) (cmpI a2 b2) _ _ (by go_cell) (by go_cell) (by go_cell) (by go_cell)).mono ?_
 rintro e w1 ⟨rfl, rfl⟩
 refine hK _ _ (.inr ⟨HS.1.alloc _, HS.2.alloc _⟩) ?_
 try simp only [Act.put, List.setIfInBounds_toArray, List.set_cons_zero, List.set_cons_succ]
 refine anyL_one (i := 22) aZ22 (by kernel_rfl) rfl (fun K hK => ?_)
 go_simp
 refine hK _ _ (.inr ⟨HS.1.alloc _, HS.2.alloc _⟩) (anyL_done (by kernel_rfl) (NoPanic.normal ?_))
 try simp only [Act.put, List.setIfInBounds_toArray, List.set_cons_zero, List.set_cons_succ]
 go_wp2
 go_ret
 exact ⟨ret_int3 HR.out, HU.alloc HU.size _⟩
end Go.Proofs.YthajkkobgfighaaGreatDoor.Wt
namespace Go.Proofs.YthajkkobgfighaaGreatDoor.Pl
theorem ahead_irrefl (a : Ar) : aheadB a a = false := by rw [aheadB_false]; omega
theorem ahead_lt {a b c : Ar} (h1 : aheadB a b = true) (h2 : aheadB b c = true) : aheadB a c = true := by
 rw [aheadB_iff] at *; omega
theorem ahead_asymm {a b : Ar} (h1 : aheadB a b = true) : aheadB b a = false := by
 rw [aheadB_iff] at h1; rw [aheadB_false]; omega
theorem ahead_same {a b : Ar} (h1 : aheadB a b = false) (h2 : aheadB b a = false) : a = b := by
 obtain ⟨a0, a1, a2, a3⟩ := a
 obtain ⟨b0, b1, b2, b3⟩ := b
 rw [aheadB_false] at *
 simp only at h1 h2
 have e0 : a0 = b0 := by omega
 have e1 : a1 = b1 := by omega
 have e2 : a2 = b2 := by omega
 have e3 : a3 = b3 := by omega
 rw [e0, e1, e2, e3]
def leB (a b : Ar) : Bool := !aheadB b a
def sortL (l : List Ar) : List Ar := l.mergeSort leB
theorem leB_trans (a b c : Ar) (h1 : leB a b = true) (h2 : leB b c = true) : leB a c = true := by
 simp only [leB, Bool.not_eq_true'] at *
 exact ahead_trans h1 h2
theorem leB_total (a b : Ar) : (leB a b || leB b a) = true := by
 simp only [leB, Bool.or_eq_true, Bool.not_eq_true']
 rcases bool_cases' (aheadB b a) with h | h
 ·exact .inr (ahead_asymm h)
 ·exact .inl h
theorem sortL_perm (l : List Ar) : (sortL l).Perm l := List.mergeSort_perm _ _
theorem sortL_length (l : List Ar) : (sortL l).length = l.length := (sortL_perm l).length_eq
theorem sortL_pair (l : List Ar) : (sortL l).Pairwise fun a b => leB a b = true := List.pairwise_mergeSort leB_trans leB_total l
theorem sortL_one {l r : List Ar} (hp : r.Perm l) (hr : r.Pairwise fun a b => leB a b = true) : r = sortL l := by
 refine List.Perm.eq_of_pairwise (le := fun x y => leB x y = true) ?_ hr (sortL_pair l) (hp.trans (sortL_perm l).symm)
 intro a b _ _ h1 h2
 simp only [leB, Bool.not_eq_true'] at h1 h2
 exact ahead_same h2 h1
def placeL : List Ar → Ar → List Ar
 | [], a => [a]
 | x :: l, a => if aheadB a x = true then a :: x :: l else x :: placeL l a
theorem placeL_perm (l : List Ar) (a : Ar) : (placeL l a).Perm (a :: l) := by
  induction l with
  | nil => exact List.Perm.refl _
  | cons x l ih =>
    simp only [placeL]
    split
    · exact List.Perm.refl _
    · exact (List.Perm.cons x ih).trans (List.Perm.swap a x l)
theorem placeL_length (l : List Ar) (a : Ar) : (placeL l a).length = l.length + 1 := by simpa using (placeL_perm l a).length_eq
theorem placeL_pair {l : List Ar} (h : l.Pairwise fun a b => leB a b = true) (a : Ar) : (placeL l a).Pairwise fun a b => leB a b = true := by
  induction l with
  | nil => simp [placeL]
  | cons x l ih =>
    rw [List.pairwise_cons] at h
    simp only [placeL]
    split
    · rename_i hx
      rw [List.pairwise_cons, List.pairwise_cons]
      have hax : leB a x = true := by simp [leB, ahead_asymm hx]
      refine ⟨fun y hy => ?_, h.1, h.2⟩
      rcases List.mem_cons.1 hy with rfl | hy
      · exact hax
      · exact leB_trans _ _ _ hax (h.1 y hy)
    · rename_i hx
      rw [List.pairwise_cons]
      refine ⟨fun y hy => ?_, ih h.2⟩
      rcases List.mem_cons.1 ((placeL_perm l a).mem_iff.1 hy) with rfl | hy
      · simpa [leB] using hx
      · exact h.1 y hy
def ordL (l : List Ar) : List Ar := l.foldl placeL []
theorem ordL_spec (l r : List Ar) (h : r.Pairwise fun a b => leB a b = true) : (l.foldl placeL r).Perm (l ++ r) ∧ (l.foldl placeL r).Pairwise fun a b => leB a b = true := by
  induction l generalizing r with
  | nil => exact ⟨List.Perm.refl _, h⟩
  | cons x l ih =>
    obtain ⟨h1, h2⟩ := ih (placeL r x) (placeL_pair h x)
    refine ⟨h1.trans ?_, h2⟩
    exact ((placeL_perm r x).append_left l).trans (List.perm_middle (l₁ := l) (a := x) (l₂ := r))
theorem ordL_sortL (l : List Ar) : ordL l = sortL l := by
 obtain ⟨h1, h2⟩ := ordL_spec l [] List.Pairwise.nil
 exact sortL_one (by rw [List.append_nil] at h1; exact h1) h2
theorem ordL_take {l : List Ar} {k : Nat} (h : k < l.length) : ordL (l.take (k + 1)) = placeL (ordL (l.take k)) (el l k) := by
 rw [take_el h, ordL, List.foldl_append]; rfl
theorem ordL_length (l : List Ar) : (ordL l).length = l.length := by rw [ordL_sortL, sortL_length]
def flipA (a : Ar) : Ar := (a.2.1, a.1, a.2.2.1, a.2.2.2)
def aheadS (s : Bool) (a b : Ar) : Bool := if s then aheadB (flipA a) (flipA b) else aheadB a b
def sortS (s : Bool) (l : List Ar) : List Ar := l.mergeSort fun a b => !aheadS s b a
theorem sortS_false (l : List Ar) : sortS false l = ordL l := by rw [ordL_sortL]; rfl
theorem sortS_perm (s : Bool) (l : List Ar) : (sortS s l).Perm l := List.mergeSort_perm _ _
theorem sortS_length (s : Bool) (l : List Ar) : (sortS s l).length = l.length := (sortS_perm s l).length_eq
def alikeB (a b : Ar) : Bool := decide (a.1 = b.1) && decide (a.2.1 = b.2.1) && decide (a.2.2.2 = b.2.2.2)
def lightFrom (p : Ar) : List Ar → List Ar
 | [] => []
 | x :: l => if alikeB x p = true then lightFrom x l else x :: lightFrom x l
def lightL : List Ar → List Ar
 | [] => []
 | a :: l => a :: lightFrom a l
def mapM (f : List Ar → List Ar) (m : Mc) : Mc := (m.1, m.2.map fun s => (s.1, f s.2))
def arrL (kind : Int) (l : List Ar) : List Ar := if kind = 1 then sortS true l else if kind = 2 then lightL (sortS false l) else sortS false l
def cmpS (s : Bool) (a b : Ar) : Int := if s then orI (cmpI a.2.1 b.2.1) (cmpI a.1 b.1) (cmpI a.2.2.2 b.2.2.2) (cmpI a.2.2.1 b.2.2.1) else orI (cmpI a.1 b.1) (cmpI a.2.1 b.2.1) (cmpI a.2.2.2 b.2.2.2) (cmpI a.2.2.1 b.2.2.1)
theorem cmpS_neg (s : Bool) (a b : Ar) : decide (cmpS s a b < 0) = aheadS s a b := by
 cases s
 ·exact orI_neg a b
 ·exact orI_neg (flipA a) (flipA b)
end Go.Proofs.YthajkkobgfighaaGreatDoor.Pl
