/- The program: twins as keys: which one counts ahead, one behind the other. -/
import Derived.Test.YtfpibdaedfilaaaRows
import Derived.Test.YtfpibdaedfilaaaGaB
import Derived.Test.YtfpibdaedfilaaaGae
import Derived.WalkKit
import Derived.ProofKit
import Derived.OpenShut
import Derived.Below
import Derived.Handy
import Derived.RegionTactic
import Derived.Test.YtfpibdaedfilaaaGab
import Derived.Test.YtfpibdaedfilaaaGaf
import Derived.Deep.QuietTactic
import Derived.BigQuiet
import Derived.BigRegion
import Derived.Deep.MidRow
namespace Go.Proofs.Ytfpibdaedfilaaa.Bw
open Go.ChangeShapes Go.WideShapes Go.ChangeAt Go.RowKit
open Go.Proofs.Ytfpibdaedfilaaa.Pl
set_option linter.unusedVariables false
theorem tup {x y z : Int} {p : Int × Int × Int} (h : (x, y, z) = p) : Ending.returned (.tuple #[.agg #[.int .i64 x, .int .i64 y], .int .i64 z]) = .returned (.tuple #[.agg #[.int .i64 p.1, .int .i64 p.2.1], .int .i64 p.2.2]) := by rw [← h]
theorem below_at {B : Nat} {w w' : World} {p : Addr} {v : Value} (h : Below B w w') (hp : p.block < B) (hv : w.cell? p = some v) : w'.cell? p = some v := (h.cell hp).trans hv
theorem below_fz {B : Nat} {w w' : World} {p : Addr} {v : Bool} (h : Below B w w') (hp : p.block < B) (hv : w.frozen? p = v) : w'.frozen? p = v := (h.frozen hp).trans hv
theorem below_lt {B n : Nat} {w w' : World} (h : Below B w w') (hn : n < w.heap.size) : n < w'.heap.size := Nat.lt_of_lt_of_le hn h.size
theorem isInf_any (a b : Int) (w : World) :
  Calls Try.prog 94 #[.agg #[.int .i64 a, .int .i64 b]] w fun e w' => e = .returned (.bool (infW a b)) ∧ w' = w.alloc (.cells #[.int .i64 a, .int .i64 b] 69) := by
 go_enter Try.func94, Try.ntmps94
 go_wp2
 all_goals
  go_ret
  exact ⟨ret_boolK (by simp_all [infW] <;> intros <;> omega), by simp_all⟩
theorem isFinite_any (a : Int) (w : World) :
  Calls Try.prog 95 #[.int .i64 a] w fun e w' => e = .returned (.bool (fnW a)) ∧ w' = w := by
 go_enter Try.func95, Try.ntmps95
 go_wp2
 all_goals
  go_ret
  exact ⟨ret_boolK (by simp_all [fnW] <;> intros <;> omega), by simp_all⟩
theorem mayWe_any (a b : Int) (w : World) :
  Calls Try.prog 90 #[.agg #[.int .i64 a, .int .i64 b]] w fun e w' => e = .returned (.bool (mayW a b)) ∧ w' = (w.alloc (.cells #[.int .i64 a, .int .i64 b] 69)).alloc (.cells #[.int .i64 a, .int .i64 b] 69) := by
 go_enter Try.func90, Try.ntmps90
 go_wp2_with (first | (go_at_call 94; refine (isInf_any _ _ _).mono ?_; rintro e w' ⟨rfl, rfl⟩) | (go_at_call 95; refine (isFinite_any _ _).mono ?_; rintro e w' ⟨rfl, rfl⟩))
 all_goals
  go_ret
  exact ⟨ret_boolK (by simp_all [mayW] <;> intros <;> omega), by simp_all⟩
theorem less_any (a b c d : Int) (w : World) :
  Calls Try.prog 127 #[.agg #[.int .i64 a, .int .i64 b], .agg #[.int .i64 c, .int .i64 d]] w fun e w' => e = .returned (.bool (lsW a b c d)) ∧ w' = (w.alloc (.cells #[.int .i64 a, .int .i64 b] 69)).alloc (.cells #[.int .i64 c, .int .i64 d] 69) := by
 go_enter Try.func127, Try.ntmps127
 go_wp2
 all_goals
  go_ret
  exact ⟨ret_boolK (by simp_all [lsW] <;> intros <;> omega), by simp_all⟩
theorem may_wee {a b : Int} (h : mayW a b = true) : (0 ≤ a ∧ a ≤ 1000000001) ∧ (0 ≤ b ∧ b ≤ 1000000001) := by
 rw [mayW_iff] at h; omega
theorem then_any (a b c d : Int) (w : World) (a0 : 0 ≤ a) (a1 : a ≤ 1000000001) (b0 : 0 ≤ b) (b1 : b ≤ 1000000001) (c0 : 0 ≤ c) (c1 : c ≤ 1000000001) (d0 : 0 ≤ d) (d1 : d ≤ 1000000001) :
  Calls Try.prog 91 #[.agg #[.int .i64 a, .int .i64 b], .agg #[.int .i64 c, .int .i64 d]] w fun e w' => e = .returned (.tuple #[.agg #[.int .i64 (thnW a b c d).1, .int .i64 (thnW a b c d).2.1], .int .i64 (thnW a b c d).2.2]) ∧ Below w.heap.size w w' := by
 go_enter Try.func91, Try.ntmps91
 go_wp2_with (first | (go_at_call 94; refine (isInf_any _ _ _).mono ?_; rintro e w' ⟨rfl, rfl⟩))
 all_goals
  go_returns
  exact ⟨tup (by simp_all [thnW] <;> omega), by go_grown⟩
theorem timW_any (a b c d : Int) (w : World) :
  Calls Try.prog 81 #[.agg #[.int .i64 a, .int .i64 b], .agg #[.int .i64 c, .int .i64 d]] w fun e w' => e = .returned (.tuple #[.agg #[.int .i64 (timW a b c d).1, .int .i64 (timW a b c d).2.1], .int .i64 (timW a b c d).2.2]) ∧ Below w.heap.size w w' := by
 rcases bool_cases' (mayW a b) with h | h <;> rcases bool_cases' (mayW c d) with g | g
 ·obtain ⟨⟨a0, a1⟩, b0, b1⟩ := may_wee h
  obtain ⟨⟨c0, c1⟩, d0, d1⟩ := may_wee g
  have ht : timW a b c d = thnW a b c d := by simp [timW, h, g]
  rw [ht]
  clear ht
  have HT := then_any a b c d
  generalize thnW a b c d = t at HT ⊢
  obtain ⟨p, q, r⟩ := t
  have HU : Hid (∀ w : World, Calls Try.prog 91 #[.agg #[.int .i64 a, .int .i64 b], .agg #[.int .i64 c, .int .i64 d]] w fun e w' => e = .returned (.tuple #[.agg #[.int .i64 p, .int .i64 q], .int .i64 r]) ∧ Below w.heap.size w w') := fun w => HT w a0 a1 b0 b1 c0 c1 d0 d1
  clear HT a0 a1 b0 b1 c0 c1 d0 d1
  go_enter Try.func81, Try.ntmps81
  go_wp2_with (first | (go_at_call 90; refine (mayWe_any _ _ _).mono ?_; rintro e w' ⟨rfl, rfl⟩) | (go_at_call 91; refine (HU.out _).mono ?_; rintro e w1 ⟨rfl, hb⟩; (have sw1_0 : w.heap.size + 1 + 1 < w1.heap.size := below_lt hb (by go_size); have cw1_0 : w1.cell? ⟨w.heap.size + 1 + 1, 0, none⟩ = some (.int .i64 0) := below_at hb (show w.heap.size + 1 + 1 < _ by go_size) (by first | go_cell | simp [*]); have cw1_1 : w1.cell? ⟨w.heap.size + 1 + 1, 1, none⟩ = some (.int .i64 0) := below_at hb (show w.heap.size + 1 + 1 < _ by go_size) (by first | go_cell | simp [*]); have fw1_2 : w1.frozen? ⟨w.heap.size + 1 + 1, 0, none⟩ = false := below_fz hb (show w.heap.size + 1 + 1 < _ by go_size) (by first | go_cell | simp [*, go_sem]); have fw1_3 : w1.frozen? ⟨w.heap.size + 1 + 1, 1, none⟩ = false := below_fz hb (show w.heap.size + 1 + 1 < _ by go_size) (by first | go_cell | simp [*, go_sem]); have Hw1 : Hid (Below w.heap.size w w1) := Below.trans (by go_grown) (hb.mono (by go_size)); clear hb)))
  all_goals
   have hw1 := Hw1.out
   exact bodyPost_ret (v := .tuple #[.agg #[.int .i64 p, .int .i64 q], .int .i64 r]) (by simp [results, Try.results81, go_sem, *]) rfl ⟨rfl, by go_grown⟩
 all_goals
  have ht : timW a b c d = (0, 0, 2) := by simp [timW, h, g]
  rw [ht]
  clear ht
  go_enter Try.func81, Try.ntmps81
  go_wp2_with (first | (go_at_call 90; refine (mayWe_any _ _ _).mono ?_; rintro e w' ⟨rfl, rfl⟩))
  all_goals
   go_returns
   exact ⟨rfl, by go_grown⟩
def kV (k : Int) : Value := .agg #[.int .i64 (kA k), .int .i64 (kB k)]
theorem lessK_any (x y : Int) (w : World) :
  Calls Try.prog 127 #[kV x, kV y] w fun e w' => e = .returned (.bool (decide (x < y))) ∧ Below w.heap.size w w' := by
 refine (less_any (kA x) (kB x) (kA y) (kB y) w).mono ?_
 rintro e w' ⟨rfl, rfl⟩
 exact ⟨by rw [lsW_key], ((Below.refl _ _).alloc (Nat.le_refl _) _).alloc (by rw [World.size_alloc]; exact Nat.le_succ _) _⟩
theorem timesK_any (x y : Int) (hx : KeyOk x) (hy : KeyOk y) :
  (∀ w, Calls Try.prog 81 #[kV x, kV y] w fun e w' => e = .returned (.tuple #[kV (bothK x y), .int .i64 0]) ∧ Below w.heap.size w w') ∨ (bothK x y = noK ∧ ∃ p q : Int, ∀ w, Calls Try.prog 81 #[kV x, kV y] w fun e w' => e = .returned (.tuple #[.agg #[.int .i64 p, .int .i64 q], .int .i64 4]) ∧ Below w.heap.size w w') := by
 rcases timW_key hx hy with ⟨h0, h1, h2⟩ | ⟨h0, h1⟩
 ·refine .inl fun w => (timW_any (kA x) (kB x) (kA y) (kB y) w).mono ?_
  rintro e w' ⟨rfl, hb⟩
  exact ⟨by rw [h0, h1, h2]; rfl, hb⟩
 ·refine .inr ⟨h1, (timW (kA x) (kB x) (kA y) (kB y)).1, (timW (kA x) (kB x) (kA y) (kB y)).2.1, fun w => (timW_any (kA x) (kB x) (kA y) (kB y) w).mono ?_⟩
  rintro e w' ⟨rfl, hb⟩
  exact ⟨by rw [h0], hb⟩
end Go.Proofs.Ytfpibdaedfilaaa.Bw
namespace Go.Proofs.Ytfpibdaedfilaaa.Bw
open Go.ChangeShapes Go.WideShapes Go.ChangeAt Go.RowKit
open Go.Proofs.Ytfpibdaedfilaaa.Pl Go.Proofs.Ytfpibdaedfilaaa.Wt
set_option linter.unusedVariables false
set_option linter.unusedSimpArgs false
theorem noK_agg : (Value.agg #[.int .i64 1000000001, .int .i64 1000000001]) = kV noK := by unfold kV; rw [noK_parts.1, noK_parts.2]
theorem noWay_any (w : World) : Calls Try.prog 58 #[] w fun e w' => e = .returned (kV noK) ∧ Below w.heap.size w w' := by
 rw [← noK_agg]
 go_enter Try.func58, Try.ntmps58
 go_wp2
 go_returns
 exact ⟨rfl, by go_grown⟩
theorem both_any (x y : Int) (w : World) (hx : KeyOk x) (hy : KeyOk y) :
  Calls Try.prog 55 #[kV x, kV y] w fun e w' => e = .returned (kV (bothK x y)) ∧ Below w.heap.size w w' := by
 rcases timesK_any x y hx hy with HT0 | ⟨hz, p, q, HT0⟩
 ·have HT := hidP HT0
  unfold kV
  unfold kV at HT
  clear HT0 hx hy
  generalize kA x = xa at *
  generalize kB x = xb at *
  generalize kA y = ya at *
  generalize kB y = yb at *
  generalize kA (bothK x y) = za at *
  generalize kB (bothK x y) = zb at *
  go_enter Try.func55, Try.ntmps55
  go_wp2_with (first
   | (go_at_call 81; refine (HT.out _).mono ?_; rintro e w1 ⟨rfl, hb⟩; (have sw1_0 : w.heap.size + 1 + 1 < w1.heap.size := below_lt hb (by go_size); have cw1_0 : w1.cell? ⟨w.heap.size + 1 + 1, 0, none⟩ = some (.int .i64 0) := below_at hb (show w.heap.size + 1 + 1 < _ by go_size) (by first | go_cell | simp [*]); have cw1_1 : w1.cell? ⟨w.heap.size + 1 + 1, 1, none⟩ = some (.int .i64 0) := below_at hb (show w.heap.size + 1 + 1 < _ by go_size) (by first | go_cell | simp [*]); have fw1_2 : w1.frozen? ⟨w.heap.size + 1 + 1, 0, none⟩ = false := below_fz hb (show w.heap.size + 1 + 1 < _ by go_size) (by first | go_cell | simp [*, go_sem]); have fw1_3 : w1.frozen? ⟨w.heap.size + 1 + 1, 1, none⟩ = false := below_fz hb (show w.heap.size + 1 + 1 < _ by go_size) (by first | go_cell | simp [*, go_sem]); have Hw1 : Hid (Below w.heap.size w w1) := Below.trans (by go_grown) (hb.mono (by go_size)); clear hb)))
  all_goals
   have hw1 := Hw1.out
   exact bodyPost_ret (v := .agg #[.int .i64 za, .int .i64 zb]) (by simp [results, Try.results55, go_sem, *]) rfl ⟨rfl, by go_grown⟩
 ·have HT := hidP HT0
  have HNO := hidP (fun W => noWay_any W)
  rw [hz]
  rw [← noK_agg] at HNO ⊢
  unfold kV
  unfold kV at HT
  clear HT0 hx hy hz
  generalize kA x = xa at *
  generalize kB x = xb at *
  generalize kA y = ya at *
  generalize kB y = yb at *
  go_enter Try.func55, Try.ntmps55
  go_wp2_with (first
   | (go_at_call 81; refine (HT.out _).mono ?_; rintro e w1 ⟨rfl, hb⟩; (have sw1_0 : w.heap.size + 1 + 1 < w1.heap.size := below_lt hb (by go_size); have cw1_0 : w1.cell? ⟨w.heap.size + 1 + 1, 0, none⟩ = some (.int .i64 0) := below_at hb (show w.heap.size + 1 + 1 < _ by go_size) (by first | go_cell | simp [*]); have cw1_1 : w1.cell? ⟨w.heap.size + 1 + 1, 1, none⟩ = some (.int .i64 0) := below_at hb (show w.heap.size + 1 + 1 < _ by go_size) (by first | go_cell | simp [*]); have fw1_2 : w1.frozen? ⟨w.heap.size + 1 + 1, 0, none⟩ = false := below_fz hb (show w.heap.size + 1 + 1 < _ by go_size) (by first | go_cell | simp [*, go_sem]); have fw1_3 : w1.frozen? ⟨w.heap.size + 1 + 1, 1, none⟩ = false := below_fz hb (show w.heap.size + 1 + 1 < _ by go_size) (by first | go_cell | simp [*, go_sem]); have Hw1 : Hid (Below w.heap.size w w1) := Below.trans (by go_grown) (hb.mono (by go_size)); clear hb))
   | (go_at_call 58; refine (HNO.out _).mono ?_; rintro e w2 ⟨rfl, hb⟩; (have sw2_0 : w.heap.size + 1 + 1 < w2.heap.size := below_lt hb (by go_size); have cw2_0 : w2.cell? ⟨w.heap.size + 1 + 1, 0, none⟩ = some (.int .i64 0) := below_at hb (show w.heap.size + 1 + 1 < _ by go_size) (by first | go_cell | simp [*]); have cw2_1 : w2.cell? ⟨w.heap.size + 1 + 1, 1, none⟩ = some (.int .i64 0) := below_at hb (show w.heap.size + 1 + 1 < _ by go_size) (by first | go_cell | simp [*]); have fw2_2 : w2.frozen? ⟨w.heap.size + 1 + 1, 0, none⟩ = false := below_fz hb (show w.heap.size + 1 + 1 < _ by go_size) (by first | go_cell | simp [*, go_sem]); have fw2_3 : w2.frozen? ⟨w.heap.size + 1 + 1, 1, none⟩ = false := below_fz hb (show w.heap.size + 1 + 1 < _ by go_size) (by first | go_cell | simp [*, go_sem]); have Hw2 : Hid (Below w.heap.size w w2) := Below.trans (by (have hp := Hw1.out); go_grown) (hb.mono (by go_size)); clear hb)))
  all_goals
   have hw2 := Hw2.out
   exact bodyPost_ret (v := .agg #[.int .i64 1000000001, .int .i64 1000000001]) (by simp [results, Try.results55, go_sem, *]) rfl ⟨rfl, by go_grown⟩
theorem byArc_any (x y c z : Int) (w : World) : Calls Try.prog 56 #[.agg #[.int .i64 x, .int .i64 y, .int .i64 c, .int .i64 z]] w fun e w' => e = .returned (.agg #[.int .i64 c, .int .i64 1]) ∧ Below w.heap.size w w' := by
 go_enter Try.func56, Try.ntmps56
 go_wp2
 go_returns
 exact ⟨rfl, by go_grown⟩
theorem end_any (z : Int) (a : Option Addr) (n cap : Nat) (w : World) : Calls Try.prog 54 #[.agg #[.int .i64 z, .slice a n cap]] w fun e w' => e = .returned (.int .i64 (n : Int)) ∧ Below w.heap.size w w' := by
 go_enter Try.func54, Try.ntmps54
 go_wp2
 go_returns
 exact ⟨rfl, by go_grown⟩
theorem load_wait (B : Nat) (w : World) {v : Value} (h : w.cell? ⟨B, 0, none⟩ = some v) : (loadVar 136 ⟨B, 0, none⟩).run Try.prog w = .ok v w := by
 simp [loadVar, isAgg, underlying, Try.underlying136, h, Result.andThen]
theorem methW_push (B : Nat) (w : World) : Sem.run Try.prog (method 287 137 (.pointer (some ⟨B, 0, none⟩)) "Push") w = .ok (129, .pointer (some ⟨B, 0, none⟩)) w := by kernel_rfl
theorem methW_pop (B : Nat) (w : World) : Sem.run Try.prog (method 287 137 (.pointer (some ⟨B, 0, none⟩)) "Pop") w = .ok (128, .pointer (some ⟨B, 0, none⟩)) w := by kernel_rfl
theorem methW_len0 (B : Nat) (w : World) : Sem.run Try.prog (method 287 137 (.pointer (some ⟨B, 0, none⟩)) "Len") w = Sem.run Try.prog (do let v ← loadVar 136 ⟨B, 0, none⟩; pure (80, v)) w := by kernel_rfl
theorem methW_less0 (B : Nat) (w : World) : Sem.run Try.prog (method 287 137 (.pointer (some ⟨B, 0, none⟩)) "Less") w = Sem.run Try.prog (do let v ← loadVar 136 ⟨B, 0, none⟩; pure (125, v)) w := by kernel_rfl
theorem methW_swap0 (B : Nat) (w : World) : Sem.run Try.prog (method 287 137 (.pointer (some ⟨B, 0, none⟩)) "Swap") w = Sem.run Try.prog (do let v ← loadVar 136 ⟨B, 0, none⟩; pure (126, v)) w := by kernel_rfl
theorem methW_len {B : Nat} {w : World} {v : Value} (h : w.cell? ⟨B, 0, none⟩ = some v) : Sem.run Try.prog (method 287 137 (.pointer (some ⟨B, 0, none⟩)) "Len") w = .ok (80, v) w := by
 rw [methW_len0]; simp [load_wait B w h, Sem.run_bind]
theorem methW_less {B : Nat} {w : World} {v : Value} (h : w.cell? ⟨B, 0, none⟩ = some v) : Sem.run Try.prog (method 287 137 (.pointer (some ⟨B, 0, none⟩)) "Less") w = .ok (125, v) w := by
 rw [methW_less0]; simp [load_wait B w h, Sem.run_bind]
theorem methW_swap {B : Nat} {w : World} {v : Value} (h : w.cell? ⟨B, 0, none⟩ = some v) : Sem.run Try.prog (method 287 137 (.pointer (some ⟨B, 0, none⟩)) "Swap") w = .ok (126, v) w := by
 rw [methW_swap0]; simp [load_wait B w h, Sem.run_bind]
def encW (a : Ar) : List Value := [.int .i64 a.1, .int .i64 (kA a.2.2.2), .int .i64 (kB a.2.2.2)]
theorem encW_len (a : Ar) : (encW a).length = 3 := rfl
theorem encW_one (a : Ar) : ∀ u ∈ encW a, u.oneCell' = true := by
 intro u hu
 simp [encW] at hu
 rcases hu with rfl | rfl | rfl <;> rfl
def ThrW (w : World) (b o : Nat) (a : Ar) : Prop := w.cell? ⟨b, o, none⟩ = some (.int .i64 a.1) ∧ w.cell? ⟨b, o + 1, none⟩ = some (.int .i64 (kA a.2.2.2)) ∧ w.cell? ⟨b, o + 2, none⟩ = some (.int .i64 (kB a.2.2.2))
theorem own_thr {w : World} {base : Nat} {e : TypeId} {g n cap j : Nat} {ws : List Ar} (h : w.ownsRow base e 3 (.slice (some ⟨g, 0, none⟩) n cap) n (ws.flatMap encW)) (hj : j < ws.length) : ThrW w g (j * 3) (el ws j) := by
 have hc : ∀ i u, i < 3 → (encW (el ws j))[i]? = some u → w.cell? ⟨g, j * 3 + i, none⟩ = some u := fun i u hi hu => by
  have := h.cells (g := g) rfl (j * 3 + i) u ((flat_at encW_len ws j hj i hi).trans hu)
  rw [Addr.add_lit, Nat.zero_add] at this
  exact this
 exact ⟨hc 0 _ (by omega) rfl, hc 1 _ (by omega) rfl, hc 2 _ (by omega) rfl⟩
theorem own_fzW {w : World} {base : Nat} {e : TypeId} {s g n cap : Nat} {ws : List Value} (h : w.ownsRow base e s (.slice (some ⟨g, 0, none⟩) n cap) n ws) (j : Nat) : w.frozen? ⟨g, j, none⟩ = false := by
 rcases h.2 with ⟨hv, hn0⟩ | ⟨g', cap', cur, hv, hbg, hg, _⟩
 ·simp at hv
 ·simp only [Value.slice.injEq, Option.some.injEq, Addr.mk.injEq, and_true, true_and] at hv
  obtain ⟨rfl, rfl⟩ := hv
  exact Blk.fz (t := e) hg j
theorem own_someW {w : World} {base : Nat} {e : TypeId} {s : Nat} {v : Value} {n : Nat} {ws : List Value} (h : w.ownsRow base e s v n ws) (hn : 0 < n) : ∃ g cap, v = .slice (some ⟨g, 0, none⟩) n cap ∧ g < w.heap.size ∧ n ≤ cap ∧ base ≤ g := by
 rcases h.2 with ⟨hv, hn0⟩ | ⟨g, cap, cur, rfl, hbg, hg, hnc, _⟩
 ·omega
 ·exact ⟨g, cap, rfl, Blk.lt (t := e) hg, hnc, hbg⟩
theorem own_slW {w : World} {base : Nat} {e : TypeId} {s : Nat} {v : Value} {n : Nat} {ws : List Value} (h : w.ownsRow base e s v n ws) : ∃ a cap, v = .slice a n cap := by
 rcases h.2 with ⟨hv, hn0⟩ | ⟨g, cap, cur, rfl, _⟩
 ·subst hn0; exact ⟨_, _, hv⟩
 ·exact ⟨_, _, rfl⟩
theorem own_thereW {w : World} {base : Nat} {e : TypeId} {g n cap j : Nat} {ws : List Ar} (h : w.ownsRow base e 3 (.slice (some ⟨g, 0, none⟩) n cap) n (ws.flatMap encW)) (hj : j < ws.length) : w.there g (j * 3) 3 := by
 obtain ⟨h0, h1, h2⟩ := own_thr h hj
 intro i hi
 refine ⟨?_, own_fzW h _⟩
 have : i = 0 ∨ i = 1 ∨ i = 2 := by omega
 rcases this with rfl | rfl | rfl
 ·rw [Nat.add_zero, h0]; rfl
 ·rw [h1]; rfl
 ·rw [h2]; rfl
theorem set_wayL {xs : List Ar} {k : Nat} (hk : k < xs.length) (p : Ar) : (((xs.flatMap encW).set (k * 3) (.int .i64 p.1)).set (k * 3 + 1) (.int .i64 (kA p.2.2.2))).set (k * 3 + 2) (.int .i64 (kB p.2.2.2)) = (xs.set k p).flatMap encW := by
  induction xs generalizing k with
  | nil => simp at hk
  | cons x xs ih =>
    cases k with
    | zero => simp [encW]
    | succ k =>
      have h4 := ih (k := k) (by simpa using hk)
      rw [List.set_cons_succ, List.flatMap_cons, List.flatMap_cons, ← h4]
      have e : ∀ (l : List Value) (i : Nat) (v : Value), (encW x ++ l).set ((k + 1) * 3 + i) v = encW x ++ l.set (k * 3 + i) v := fun l i v => by
        rw [List.set_append_right _ _ (by rw [encW_len]; omega), encW_len]
        congr 2
        omega
      have e0 := e (xs.flatMap encW) 0 (.int .i64 p.1)
      have e1 : (encW x ++ List.flatMap encW xs).set ((k + 1) * 3) (Value.int IntKind.i64 p.1) = encW x ++ (List.flatMap encW xs).set (k * 3) (Value.int IntKind.i64 p.1) := e0
      rw [e1, e, e]
theorem own_setW {w : World} {base : Nat} {e : TypeId} {g n cap j : Nat} {ws : List Ar} (h : w.ownsRow base e 3 (.slice (some ⟨g, 0, none⟩) n cap) n (ws.flatMap encW)) (hj : j < ws.length) (x : Ar) :
  (w.setCells g (j * 3) (encW x)).ownsRow base e 3 (.slice (some ⟨g, 0, none⟩) n cap) n ((ws.set j x).flatMap encW) := by
 have hlen := h.1
 rw [flat_length encW_len] at hlen
 rcases h.2 with ⟨hv, hn0⟩ | ⟨g', cap', cur, hv, hbg, hg, hnc, hcm, hcs, htake⟩
 ·simp at hv
 ·simp only [Value.slice.injEq, Option.some.injEq, Addr.mk.injEq, and_true, true_and] at hv
  obtain ⟨rfl, rfl⟩ := hv
  have hB : Blk w g cur e := hg
  refine ⟨by rw [flat_length encW_len, List.length_set]; exact hlen, .inr ⟨g, cap, ((cur.setIfInBounds (j * 3) (.int .i64 x.1)).setIfInBounds (j * 3 + 1) (.int .i64 (kA x.2.2.2))).setIfInBounds (j * 3 + 2) (.int .i64 (kB x.2.2.2)), rfl, hbg, ?_, hnc, hcm, by simpa using hcs, ?_⟩⟩
  ·have := ((hB.set (j * 3) (.int .i64 x.1)).set (j * 3 + 1) (.int .i64 (kA x.2.2.2))).set (j * 3 + 2) (.int .i64 (kB x.2.2.2))
   exact this
  ·rw [Array.toList_setIfInBounds, Array.toList_setIfInBounds, Array.toList_setIfInBounds, List.take_set, List.take_set, List.take_set, htake]
   exact set_wayL hj x
theorem gSetW (w : World) (g o : Nat) (x : Ar) : w.grownBy (w.setCells g o (encW x)) (some g) :=
 gTrans (gSet w g o (.int .i64 x.1)) (gTrans (gSet _ g (o + 1) (.int .i64 (kA x.2.2.2))) (gSet _ g (o + 2) (.int .i64 (kB x.2.2.2))))
set_option maxRecDepth 100000 in
theorem wLen_any (a : Option Addr) (n cap : Nat) (w : World) :
  Calls Try.prog 80 #[.slice a n cap] w fun e w' => e = .returned (.int .i64 (n : Int)) ∧ w' = w := by
 go_enter Try.func80, Try.ntmps80
 go_wp2
 go_ret
 exact ⟨rfl, rfl⟩
def HeldLs (g i j : Nat) (a b c d : Int) (w : World) : Prop := w.cell? ⟨g, i * 3 + 1, none⟩ = some (.int .i64 a) ∧ w.cell? ⟨g, i * 3 + 2, none⟩ = some (.int .i64 b) ∧ w.cell? ⟨g, j * 3 + 1, none⟩ = some (.int .i64 c) ∧ w.cell? ⟨g, j * 3 + 2, none⟩ = some (.int .i64 d)
set_option maxRecDepth 100000 in
set_option maxHeartbeats 2000000 in
theorem wLess_any (g n cap : Nat) (w : World) (x y : Int) (i j : Nat) (hi : i < n) (hj : j < n) (hn : n ≤ 10000000) (hg : g < w.heap.size) (ci : w.cell? ⟨g, i * 3 + 1, none⟩ = some (.int .i64 (kA x)) ∧ w.cell? ⟨g, i * 3 + 2, none⟩ = some (.int .i64 (kB x))) (cj : w.cell? ⟨g, j * 3 + 1, none⟩ = some (.int .i64 (kA y)) ∧ w.cell? ⟨g, j * 3 + 2, none⟩ = some (.int .i64 (kB y))) :
  Calls Try.prog 125 #[.slice (some ⟨g, 0, none⟩) n cap, .int .i64 (i : Int), .int .i64 (j : Int)] w fun e w' => e = .returned (.bool (decide (x < y))) ∧ Below w.heap.size w w' := by
 obtain ⟨a0, a1⟩ := ci
 obtain ⟨b0, b1⟩ := cj
 have HL : Hid (∀ W, Calls Try.prog 127 #[.agg #[.int .i64 (kA x), .int .i64 (kB x)], .agg #[.int .i64 (kA y), .int .i64 (kB y)]] W fun e w' => e = .returned (.bool (decide (x < y))) ∧ Below W.heap.size W w') := fun W => lessK_any x y W
 have k1 : (0 : Int) ≤ (i : Int) := by omega
 have k2 : (i : Int) < (n : Int) := by omega
 have k3 : (0 : Int) ≤ (j : Int) := by omega
 have k4 : (j : Int) < (n : Int) := by omega
 have HS : HeldLs g i j (kA x) (kB x) (kA y) (kB y) w.drew := ⟨a0, a1, b0, b1⟩
 have HLT : Hid (∀ w1, Below w.heap.size w.drew w1 → HeldLs g i j (kA x) (kB x) (kA y) (kB y) w1) := fun w1 hb => ⟨(hb.cell hg).trans a0, (hb.cell hg).trans a1, (hb.cell hg).trans b0, (hb.cell hg).trans b1⟩
 generalize decide (x < y) = bx at *
 generalize kA x = xa at *
 generalize kB x = xb at *
 generalize kA y = ya at *
 generalize kB y = yb at *
 clear a0 a1 b0 b1
 go_enter Try.func125, Try.ntmps125
 go_wp2
 refine region_anyL (HeldLs g i j xa xb ya yb) 1000 (by kernel_rfl) ?_
 refine anyL_tk (i := 0) (v := ?v0_1) aZ0 (by kernel_rfl) ?y0_1 HS ?r0_1
 case y0_1 => intro wx hx; obtain ⟨h0, h1, h2, h3⟩ := hx; go_simp; try (with_reducible rfl)
 simp only [Act.put, List.setIfInBounds_toArray, List.set_cons_zero, List.set_cons_succ]
 refine anyL_tk (i := 1) (v := ?v1_2) aZ1 (by kernel_rfl) ?y1_2 HS ?r1_2
 case y1_2 => intro wx hx; obtain ⟨h0, h1, h2, h3⟩ := hx; go_simp; try (with_reducible rfl)
 simp only [Act.put, List.setIfInBounds_toArray, List.set_cons_zero, List.set_cons_succ]
 refine anyL_tk (i := 2) (v := ?v2_3) aZ2 (by kernel_rfl) ?y2_3 HS ?r2_3
 case y2_3 => intro wx hx; obtain ⟨h0, h1, h2, h3⟩ := hx; go_simp; try (with_reducible rfl)
 simp only [Act.put, List.setIfInBounds_toArray, List.set_cons_zero, List.set_cons_succ]
 refine anyL_tk (i := 3) (v := ?v3_4) aZ3 (by kernel_rfl) ?y3_4 HS ?r3_4
 case y3_4 => intro wx hx; obtain ⟨h0, h1, h2, h3⟩ := hx; go_simp; try (with_reducible rfl)
 simp only [Act.put, List.setIfInBounds_toArray, List.set_cons_zero, List.set_cons_succ]
 refine anyL_tk (i := 4) (v := ?v4_5) aZ4 (by kernel_rfl) ?y4_5 HS ?r4_5
 case y4_5 => intro wx hx; obtain ⟨h0, h1, h2, h3⟩ := hx; go_simp; try (with_reducible rfl)
 simp only [Act.put, List.setIfInBounds_toArray, List.set_cons_zero, List.set_cons_succ]
 refine anyL_tk (i := 5) (v := ?v5_6) aZ5 (by kernel_rfl) ?y5_6 HS ?r5_6
 case y5_6 => intro wx hx; obtain ⟨h0, h1, h2, h3⟩ := hx; go_simp; try (with_reducible rfl)
 simp only [Act.put, List.setIfInBounds_toArray, List.set_cons_zero, List.set_cons_succ]
 refine anyL_tk (i := 6) (v := ?v6_7) aZ6 (by kernel_rfl) ?y6_7 HS ?r6_7
 case y6_7 => intro wx hx; obtain ⟨h0, h1, h2, h3⟩ := hx; go_simp; try (with_reducible rfl)
 simp only [Act.put, List.setIfInBounds_toArray, List.set_cons_zero, List.set_cons_succ]
 refine anyL_tk (i := 7) (v := ?v7_8) aZ7 (by kernel_rfl) ?y7_8 HS ?r7_8
 case y7_8 => intro wx hx; obtain ⟨h0, h1, h2, h3⟩ := hx; go_simp; try (with_reducible rfl)
 simp only [Act.put, List.setIfInBounds_toArray, List.set_cons_zero, List.set_cons_succ]
 refine anyL_tk (i := 8) (v := ?v8_9) aZ8 (by kernel_rfl) ?y8_9 HS ?r8_9
 case y8_9 => intro wx hx; obtain ⟨h0, h1, h2, h3⟩ := hx; go_simp; try (with_reducible rfl)
 simp only [Act.put, List.setIfInBounds_toArray, List.set_cons_zero, List.set_cons_succ]
 refine anyL_tk (i := 9) (v := ?v9_10) aZ9 (by kernel_rfl) ?y9_10 HS ?r9_10
 case y9_10 => intro wx hx; obtain ⟨h0, h1, h2, h3⟩ := hx; go_simp; try (with_reducible rfl)
 simp only [Act.put, List.setIfInBounds_toArray, List.set_cons_zero, List.set_cons_succ]
 refine anyL_one (i := 10) aZ10 (by kernel_rfl) rfl (fun K hK => ?_)
 go_simp
 with_reducible refine (HL.out _).mono ?_
 rintro e w1 ⟨rfl, hb1⟩
 have HB1 : Hid (Below w.heap.size w w1) := (Below.refl w.heap.size w).drew.trans hb1
 have HS1 := HLT.out w1 hb1
 refine hK _ _ (.inr HS1) ?_
 try simp only [Act.put, List.setIfInBounds_toArray, List.set_cons_zero, List.set_cons_succ]
 clear hb1 HS HL HLT
 refine anyL_one (i := 11) aZ11 (by kernel_rfl) rfl (fun K hK => ?_)
 go_simp
 refine hK _ _ (.inr HS1) (anyL_done (by kernel_rfl) (NoPanic.normal ?_))
 try simp only [Act.put, List.setIfInBounds_toArray, List.set_cons_zero, List.set_cons_succ]
 go_wp2
 go_ret
 exact ⟨rfl, HB1.out⟩
theorem infoWay : (Try.prog.info? 134).map (fun i => (i.zero, i.size, i.bytes)) = some (some (.agg #[.int .i64 0, .int .i64 0, .int .i64 0]), 3, 24) := by kernel_rfl
theorem infoWaySize : (Try.prog.info? 134).map (·.size) = some 3 := by kernel_rfl
def HeldTw (_ : World) : Prop := True
set_option maxRecDepth 100000 in
set_option maxHeartbeats 2000000 in
theorem wSwap_any (g n cap : Nat) (w : World) (x y : Ar) (i j : Nat) (hi : i < n) (hj : j < n) (hn : n ≤ 10000000) (ci : ThrW w g (i * 3) x) (cj : ThrW w g (j * 3) y) (fi : w.there g (i * 3) 3) (fj : w.there g (j * 3) 3) :
  Calls Try.prog 126 #[.slice (some ⟨g, 0, none⟩) n cap, .int .i64 (i : Int), .int .i64 (j : Int)] w fun e w' => e = .returned (.tuple #[]) ∧ w' = (w.drew.setCells g (i * 3) (encW y)).setCells g (j * 3) (encW x) := by
 have F1 : Hid (w.drew.there g (i * 3) 3) := fi
 have F2 : Hid ((w.drew.setCells g (i * 3) (encW y)).there g (j * 3) 3) := World.there_setCells (w := w.drew) fj g (i * 3) (encW y)
 obtain ⟨W2, hW2⟩ : ∃ W2, W2 = (w.drew.setCells g (i * 3) (encW y)).setCells g (j * 3) (encW x) := ⟨_, rfl⟩
 have HW2 : Hid (W2 = (w.drew.setCells g (i * 3) (encW y)).setCells g (j * 3) (encW x)) := hW2
 rw [← hW2]
 clear hW2
 obtain ⟨x0, x1, x2, x3⟩ := x
 obtain ⟨y0, y1, y2, y3⟩ := y
 obtain ⟨a0, a3, a4⟩ := ci
 obtain ⟨b0, b3, b4⟩ := cj
 simp only at a0 a3 a4 b0 b3 b4
 have k1 : (0 : Int) ≤ (i : Int) := by omega
 have k2 : (i : Int) < (n : Int) := by omega
 have k3 : (0 : Int) ≤ (j : Int) := by omega
 have k4 : (j : Int) < (n : Int) := by omega
 clear fi fj
 have HS : HeldTw w.drew := trivial
 go_enter Try.func126, Try.ntmps126
 go_wp2
 refine region_anyL HeldTw 15 (by kernel_rfl) ?_
 refine anyL_tk (i := 0) (v := ?v0_11) aZ0 (by kernel_rfl) ?y0_11 HS ?r0_11
 case y0_11 => intro wx hx; obtain h1 := hx; go_simp; try (with_reducible rfl)
 simp only [Act.put, List.setIfInBounds_toArray, List.set_cons_zero, List.set_cons_succ]
 refine anyL_tk (i := 1) (v := ?v1_12) aZ1 (by kernel_rfl) ?y1_12 HS ?r1_12
 case y1_12 => intro wx hx; obtain h1 := hx; go_simp; try (with_reducible rfl)
 simp only [Act.put, List.setIfInBounds_toArray, List.set_cons_zero, List.set_cons_succ]
 refine anyL_tk (i := 2) (v := ?v2_13) aZ2 (by kernel_rfl) ?y2_13 HS ?r2_13
 case y2_13 => intro wx hx; obtain h1 := hx; go_simp; try (with_reducible rfl)
 simp only [Act.put, List.setIfInBounds_toArray, List.set_cons_zero, List.set_cons_succ]
 refine anyL_tk (i := 3) (v := ?v3_14) aZ3 (by kernel_rfl) ?y3_14 HS ?r3_14
 case y3_14 => intro wx hx; obtain h1 := hx; go_simp; try (with_reducible rfl)
 simp only [Act.put, List.setIfInBounds_toArray, List.set_cons_zero, List.set_cons_succ]
 refine anyL_tk (i := 4) (v := ?v4_15) aZ4 (by kernel_rfl) ?y4_15 HS ?r4_15
 case y4_15 => intro wx hx; obtain h1 := hx; go_simp; try (with_reducible rfl)
 simp only [Act.put, List.setIfInBounds_toArray, List.set_cons_zero, List.set_cons_succ]
 refine anyL_tk (i := 5) (v := ?v5_16) aZ5 (by kernel_rfl) ?y5_16 HS ?r5_16
 case y5_16 => intro wx hx; obtain h1 := hx; go_simp; try (with_reducible rfl)
 simp only [Act.put, List.setIfInBounds_toArray, List.set_cons_zero, List.set_cons_succ]
 refine anyL_tk (i := 6) (v := ?v6_17) aZ6 (by kernel_rfl) ?y6_17 HS ?r6_17
 case y6_17 => intro wx hx; obtain h1 := hx; go_simp; try (with_reducible rfl)
 simp only [Act.put, List.setIfInBounds_toArray, List.set_cons_zero, List.set_cons_succ]
 refine anyL_tk (i := 8) (v := ?v8_18) aZ8 (by kernel_rfl) ?y8_18 HS ?r8_18
 case y8_18 => intro wx hx; obtain h1 := hx; go_simp; try (with_reducible rfl)
 simp only [Act.put, List.setIfInBounds_toArray, List.set_cons_zero, List.set_cons_succ]
 refine anyL_tk (i := 9) (v := ?v9_19) aZ9 (by kernel_rfl) ?y9_19 HS ?r9_19
 case y9_19 => intro wx hx; obtain h1 := hx; go_simp; try (with_reducible rfl)
 simp only [Act.put, List.setIfInBounds_toArray, List.set_cons_zero, List.set_cons_succ]
 refine anyL_tk (i := 10) (v := ?v10_20) aZ10 (by kernel_rfl) ?y10_20 HS ?r10_20
 case y10_20 => intro wx hx; obtain h1 := hx; go_simp; try (with_reducible rfl)
 simp only [Act.put, List.setIfInBounds_toArray, List.set_cons_zero, List.set_cons_succ]
 refine anyL_br (rs := [7, 11]) (by kernel_rfl) (by simp) (List.forall_mem_cons.2 ⟨⟨_, (atS (atS (atS (atS (atS (atS (atS at0))))))), rfl, fun K hK => ?_⟩, List.forall_mem_cons.2 ⟨⟨_, (atS (atS (atS (atS (atS (atS (atS (atS (atS (atS (atS at0))))))))))), rfl, fun K hK => ?_⟩, fun _ h => absurd h (by simp)⟩⟩)
 ·go_simp
  refine hK _ _ (.inr trivial) ?_
  try simp only [Act.put, List.setIfInBounds_toArray, List.set_cons_zero, List.set_cons_succ]
  refine anyL_one (i := 11) aZ11 (by kernel_rfl) rfl (fun K hK => ?_)
  go_simp
  refine hK _ _ (.inr trivial) ?_
  try simp only [Act.put, List.setIfInBounds_toArray, List.set_cons_zero, List.set_cons_succ]
  refine anyL_tk (i := 12) (v := ?v12_21) aZ12 (by kernel_rfl) ?y12_21 HS ?r12_21
  case y12_21 => intro wx hx; obtain h1 := hx; go_simp; try (with_reducible rfl)
  simp only [Act.put, List.setIfInBounds_toArray, List.set_cons_zero, List.set_cons_succ]
  refine anyL_one (i := 13) aZ13 (by kernel_rfl) rfl (fun K hK => ?_)
  refine wp_store_mid 134 (.tmp 18) (.tmp 13) rfl g (i * 3) #[.int .i64 y0, .int .i64 (kA y3), .int .i64 (kB y3)] rfl rfl F1.out infoWaySize (by simp [Value.oneCell']) ?_
  refine hK _ _ (.inr trivial) ?_
  try simp only [Act.put, List.setIfInBounds_toArray, List.set_cons_zero, List.set_cons_succ]
  refine anyL_tk (i := 14) (v := ?v14_22) aZ14 (by kernel_rfl) ?y14_22 trivial ?r14_22
  case y14_22 => intro wx hx; obtain h1 := hx; go_simp; try (with_reducible rfl)
  simp only [Act.put, List.setIfInBounds_toArray, List.set_cons_zero, List.set_cons_succ]
  refine anyL_one (i := 15) aZ15 (by kernel_rfl) rfl (fun K hK => ?_)
  refine wp_store_mid 134 (.tmp 19) (.tmp 17) rfl g (j * 3) #[.int .i64 x0, .int .i64 (kA x3), .int .i64 (kB x3)] rfl rfl F2.out infoWaySize (by simp [Value.oneCell']) ?_
  rw [show (World.setCells (World.setCells w.drew g (i * 3) (#[Value.int .i64 y0, .int .i64 (kA y3), .int .i64 (kB y3)] : Array Value).toList) g (j * 3) (#[Value.int .i64 x0, .int .i64 (kA x3), .int .i64 (kB x3)] : Array Value).toList) = W2 from HW2.out.symm]
  refine hK _ _ (.inl rfl) (anyL_done (by kernel_rfl) (NoPanic.normal ?_))
  clear a0 a3 a4 b0 b3 b4 F1 F2 HW2 hK
  go_end0
  exact ⟨rfl, rfl⟩
 ·go_simp
  refine hK _ _ (.inr trivial) ?_
  try simp only [Act.put, List.setIfInBounds_toArray, List.set_cons_zero, List.set_cons_succ]
  refine anyL_one (i := 7) aZ7 (by kernel_rfl) rfl (fun K hK => ?_)
  go_simp
  refine hK _ _ (.inr trivial) ?_
  try simp only [Act.put, List.setIfInBounds_toArray, List.set_cons_zero, List.set_cons_succ]
  refine anyL_tk (i := 12) (v := ?v12_23) aZ12 (by kernel_rfl) ?y12_23 HS ?r12_23
  case y12_23 => intro wx hx; obtain h1 := hx; go_simp; try (with_reducible rfl)
  simp only [Act.put, List.setIfInBounds_toArray, List.set_cons_zero, List.set_cons_succ]
  refine anyL_one (i := 13) aZ13 (by kernel_rfl) rfl (fun K hK => ?_)
  refine wp_store_mid 134 (.tmp 18) (.tmp 13) rfl g (i * 3) #[.int .i64 y0, .int .i64 (kA y3), .int .i64 (kB y3)] rfl rfl F1.out infoWaySize (by simp [Value.oneCell']) ?_
  refine hK _ _ (.inr trivial) ?_
  try simp only [Act.put, List.setIfInBounds_toArray, List.set_cons_zero, List.set_cons_succ]
  refine anyL_tk (i := 14) (v := ?v14_24) aZ14 (by kernel_rfl) ?y14_24 trivial ?r14_24
  case y14_24 => intro wx hx; obtain h1 := hx; go_simp; try (with_reducible rfl)
  simp only [Act.put, List.setIfInBounds_toArray, List.set_cons_zero, List.set_cons_succ]
  refine anyL_one (i := 15) aZ15 (by kernel_rfl) rfl (fun K hK => ?_)
  refine wp_store_mid 134 (.tmp 19) (.tmp 17) rfl g (j * 3) #[.int .i64 x0, .int .i64 (kA x3), .int .i64 (kB x3)] rfl rfl F2.out infoWaySize (by simp [Value.oneCell']) ?_
  rw [show (World.setCells (World.setCells w.drew g (i * 3) (#[Value.int .i64 y0, .int .i64 (kA y3), .int .i64 (kB y3)] : Array Value).toList) g (j * 3) (#[Value.int .i64 x0, .int .i64 (kA x3), .int .i64 (kB x3)] : Array Value).toList) = W2 from HW2.out.symm]
  refine hK _ _ (.inl rfl) (anyL_done (by kernel_rfl) (NoPanic.normal ?_))
  clear a0 a3 a4 b0 b3 b4 F1 F2 HW2 hK
  go_end0
  exact ⟨rfl, rfl⟩
end Go.Proofs.Ytfpibdaedfilaaa.Bw
