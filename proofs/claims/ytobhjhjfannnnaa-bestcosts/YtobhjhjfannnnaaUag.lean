/- Twins and keys: which one counts ahead, one behind the other (no program in sight). -/
import Derived.Test.YtobhjhjfannnnaaUaf
import Derived.Test.YtobhjhjfannnnaaUab
import Derived.Test.YtobhjhjfannnnaaUac
import Derived.Test.YtobhjhjfannnnaaRows
import Derived.WalkKit
import Derived.ProofKit
import Derived.OpenShut
import Derived.Below
import Derived.Handy
import Derived.RegionTactic
import Derived.Test.YtobhjhjfannnnaaUaa
namespace Go.Proofs.Ytobhjhjfannnnaa.Pl
set_option linter.unusedVariables false
def infW (a b : Int) : Bool := a == 1000000001 && b == 1000000001
def fnW (a : Int) : Bool := decide (0 ≤ a) && decide (a ≤ 1000000000)
def mayW (a b : Int) : Bool := infW a b || fnW a && fnW b
def lsW (a b c d : Int) : Bool := decide (a < c) || a == c && decide (b < d)
theorem mayW_iff {a b : Int} : mayW a b = true ↔ (a = 1000000001 ∧ b = 1000000001) ∨ ((0 ≤ a ∧ a ≤ 1000000000) ∧ (0 ≤ b ∧ b ≤ 1000000000)) := by
 simp [mayW, infW, fnW]
def thnW (a b c d : Int) : Int × Int × Int := if (infW a b || infW c d) = true then (1000000001, 1000000001, 0) else if 1000000000 < a + c ∨ 1000000000 < b + d then (0, 0, 4) else (a + c, b + d, 0)
theorem lsW_key (x y : Int) : lsW (kA x) (kB x) (kA y) (kB y) = decide (x < y) := by
 have h := key_less x y
 unfold lsW
 by_cases g : x < y
 ·rw [decide_eq_true g]
  rcases h.1 g with k | ⟨k1, k2⟩
  ·simp [k]
  ·simp [k1, k2]
 ·rw [decide_eq_false g]
  have h1 : ¬ kA x < kA y := fun k => g (h.2 (.inl k))
  have h2 : kA x = kA y → ¬ kB x < kB y := fun k1 k2 => g (h.2 (.inr ⟨k1, k2⟩))
  by_cases e : kA x = kA y
  ·simp [e, h2 e]
  ·simp [e, h1]
theorem keyOk_may {x : Int} (h : KeyOk x) : mayW (kA x) (kB x) = true := mayW_iff.2 (by
 rcases h with rfl | h
 ·exact .inl noK_parts
 ·exact .inr ⟨⟨h.1, h.2.1⟩, h.2.2⟩)
def timW (a b c d : Int) : Int × Int × Int := if (mayW a b && mayW c d) = true then thnW a b c d else (0, 0, 2)
theorem infW_key {x : Int} : infW (kA x) (kB x) = true ↔ x = noK := by
 unfold infW
 rw [Bool.and_eq_true, beq_iff_eq, beq_iff_eq, key_eq x noK, noK_parts.1, noK_parts.2]
theorem timW_key {x y : Int} (hx : KeyOk x) (hy : KeyOk y) : ((timW (kA x) (kB x) (kA y) (kB y)).2.2 = 0 ∧ (timW (kA x) (kB x) (kA y) (kB y)).1 = kA (bothK x y) ∧ (timW (kA x) (kB x) (kA y) (kB y)).2.1 = kB (bothK x y)) ∨ ((timW (kA x) (kB x) (kA y) (kB y)).2.2 = 4 ∧ bothK x y = noK) := by
 unfold timW
 rw [keyOk_may hx, keyOk_may hy, if_pos (by rfl)]
 unfold thnW
 by_cases h : (infW (kA x) (kB x) || infW (kA y) (kB y)) = true
 ·rw [if_pos h]
  left
  have e : bothK x y = noK := by
   rw [Bool.or_eq_true, infW_key, infW_key] at h
   unfold bothK
   refine if_neg ?_
   unfold KeyOk at hx hy
   rcases h with rfl | rfl
   ·rw [noK_parts.1]
    rcases hy with rfl | hy
    ·rw [noK_parts.1]; omega
    ·omega
   ·rw [noK_parts.1]
    rcases hx with rfl | hx
    ·rw [noK_parts.1]; omega
    ·omega
  rw [e]
  exact ⟨rfl, noK_parts.1.symm, noK_parts.2.symm⟩
 ·rw [if_neg h]
  rw [Bool.or_eq_true, infW_key, infW_key] at h
  have hx2 := hx.resolve_left fun g => h (.inl g)
  have hy2 := hy.resolve_left fun g => h (.inr g)
  unfold bothK
  by_cases g : kA x + kA y ≤ 1000000000 ∧ kB x + kB y ≤ 1000000000
  ·left
   rw [if_neg (by omega), if_pos g]
   unfold kA kB at *
   refine ⟨rfl, ?_, ?_⟩ <;> simp only <;> omega
  ·right
   rw [if_pos (by omega), if_neg g]
   exact ⟨rfl, rfl⟩
end Go.Proofs.Ytobhjhjfannnnaa.Pl
namespace Go.Proofs.Ytobhjhjfannnnaa.Wt
open Go.ChangeShapes Go.WideShapes Go.ChangeAt Go.RowKit
open Go.Proofs.Ytobhjhjfannnnaa.Pl
set_option linter.unusedVariables false
set_option linter.unusedSimpArgs false
theorem hidP {p : Prop} (h : p) : Hid p := h
theorem right_states {m : Mc} (hr : faultM m = 0) : ∀ j, j < m.2.length → finB (el m.2 j).1 = true ∧ (el m.2 j).2.length ≤ 400 ∧ ∀ p ∈ (el m.2 j).2, 0 ≤ p.2.2.2 ∧ p.2.2.2 ≤ 1000 := fun j hj => by
 have h400 := (right_size (z := m.1) (l := m.2) hr).2
 have h60 := (right_size (z := m.1) (l := m.2) hr).1
 have h1 := arcN_take hj
 have h2 := arcN_takeR m.2 (j + 1)
 have h3 := (right_parts hr).2 (el m.2 j) (el_mem hj)
 refine ⟨stB_fin h3, by omega, fun p hp => ?_⟩
 simp only [stB, Bool.and_eq_true, List.all_eq_true] at h3
 have h4 := h3.2 p hp
 simp only [arcB, inB, Bool.and_eq_true, decide_eq_true_eq] at h4
 omega
end Go.Proofs.Ytobhjhjfannnnaa.Wt
namespace Go.Proofs.Ytobhjhjfannnnaa.Bw
open Go.ChangeShapes Go.WideShapes Go.ChangeAt Go.RowKit
open Go.Proofs.Ytobhjhjfannnnaa.Pl
set_option linter.unusedVariables false
theorem tup {x y z : Int} {p : Int × Int × Int} (h : (x, y, z) = p) : Ending.returned (.tuple #[.agg #[.int .i64 x, .int .i64 y], .int .i64 z]) = .returned (.tuple #[.agg #[.int .i64 p.1, .int .i64 p.2.1], .int .i64 p.2.2]) := by rw [← h]
theorem below_at {B : Nat} {w w' : World} {p : Addr} {v : Value} (h : Below B w w') (hp : p.block < B) (hv : w.cell? p = some v) : w'.cell? p = some v := (h.cell hp).trans hv
theorem below_fz {B : Nat} {w w' : World} {p : Addr} {v : Bool} (h : Below B w w') (hp : p.block < B) (hv : w.frozen? p = v) : w'.frozen? p = v := (h.frozen hp).trans hv
theorem below_lt {B n : Nat} {w w' : World} (h : Below B w w') (hn : n < w.heap.size) : n < w'.heap.size := Nat.lt_of_lt_of_le hn h.size
theorem isInf_any (a b : Int) (w : World) :
  Calls Try.prog 107 #[.agg #[.int .i64 a, .int .i64 b]] w fun e w' => e = .returned (.bool (infW a b)) ∧ w' = w.alloc (.cells #[.int .i64 a, .int .i64 b] 68) := by
 go_enter Try.func107, Try.ntmps107
 go_wp2
 all_goals
  go_ret
  exact ⟨ret_boolK (by simp_all [infW] <;> intros <;> omega), by simp_all⟩
theorem isFinite_any (a : Int) (w : World) :
  Calls Try.prog 108 #[.int .i64 a] w fun e w' => e = .returned (.bool (fnW a)) ∧ w' = w := by
 go_enter Try.func108, Try.ntmps108
 go_wp2
 all_goals
  go_ret
  exact ⟨ret_boolK (by simp_all [fnW] <;> intros <;> omega), by simp_all⟩
theorem mayWe_any (a b : Int) (w : World) :
  Calls Try.prog 97 #[.agg #[.int .i64 a, .int .i64 b]] w fun e w' => e = .returned (.bool (mayW a b)) ∧ w' = (w.alloc (.cells #[.int .i64 a, .int .i64 b] 68)).alloc (.cells #[.int .i64 a, .int .i64 b] 68) := by
 go_enter Try.func97, Try.ntmps97
 go_wp2_with (first | (go_at_call 107; refine (isInf_any _ _ _).mono ?_; rintro e w' ⟨rfl, rfl⟩) | (go_at_call 108; refine (isFinite_any _ _).mono ?_; rintro e w' ⟨rfl, rfl⟩))
 all_goals
  go_ret
  exact ⟨ret_boolK (by simp_all [mayW] <;> intros <;> omega), by simp_all⟩
theorem less_any (a b c d : Int) (w : World) :
  Calls Try.prog 132 #[.agg #[.int .i64 a, .int .i64 b], .agg #[.int .i64 c, .int .i64 d]] w fun e w' => e = .returned (.bool (lsW a b c d)) ∧ w' = (w.alloc (.cells #[.int .i64 a, .int .i64 b] 68)).alloc (.cells #[.int .i64 c, .int .i64 d] 68) := by
 go_enter Try.func132, Try.ntmps132
 go_wp2
 all_goals
  go_ret
  exact ⟨ret_boolK (by simp_all [lsW] <;> intros <;> omega), by simp_all⟩
theorem may_wee {a b : Int} (h : mayW a b = true) : (0 ≤ a ∧ a ≤ 1000000001) ∧ (0 ≤ b ∧ b ≤ 1000000001) := by
 rw [mayW_iff] at h; omega
theorem then_any (a b c d : Int) (w : World) (a0 : 0 ≤ a) (a1 : a ≤ 1000000001) (b0 : 0 ≤ b) (b1 : b ≤ 1000000001) (c0 : 0 ≤ c) (c1 : c ≤ 1000000001) (d0 : 0 ≤ d) (d1 : d ≤ 1000000001) :
  Calls Try.prog 98 #[.agg #[.int .i64 a, .int .i64 b], .agg #[.int .i64 c, .int .i64 d]] w fun e w' => e = .returned (.tuple #[.agg #[.int .i64 (thnW a b c d).1, .int .i64 (thnW a b c d).2.1], .int .i64 (thnW a b c d).2.2]) ∧ Below w.heap.size w w' := by
 go_enter Try.func98, Try.ntmps98
 go_wp2_with (first | (go_at_call 107; refine (isInf_any _ _ _).mono ?_; rintro e w' ⟨rfl, rfl⟩))
 all_goals
  go_returns
  exact ⟨tup (by simp_all [thnW] <;> omega), by go_grown⟩
theorem timW_any (a b c d : Int) (w : World) :
  Calls Try.prog 75 #[.agg #[.int .i64 a, .int .i64 b], .agg #[.int .i64 c, .int .i64 d]] w fun e w' => e = .returned (.tuple #[.agg #[.int .i64 (timW a b c d).1, .int .i64 (timW a b c d).2.1], .int .i64 (timW a b c d).2.2]) ∧ Below w.heap.size w w' := by
 rcases bool_cases' (mayW a b) with h | h <;> rcases bool_cases' (mayW c d) with g | g
 ·obtain ⟨⟨a0, a1⟩, b0, b1⟩ := may_wee h
  obtain ⟨⟨c0, c1⟩, d0, d1⟩ := may_wee g
  have ht : timW a b c d = thnW a b c d := by simp [timW, h, g]
  rw [ht]
  clear ht
  have HT := then_any a b c d
  generalize thnW a b c d = t at HT ⊢
  obtain ⟨p, q, r⟩ := t
  have HU : Hid (∀ w : World, Calls Try.prog 98 #[.agg #[.int .i64 a, .int .i64 b], .agg #[.int .i64 c, .int .i64 d]] w fun e w' => e = .returned (.tuple #[.agg #[.int .i64 p, .int .i64 q], .int .i64 r]) ∧ Below w.heap.size w w') := fun w => HT w a0 a1 b0 b1 c0 c1 d0 d1
  clear HT a0 a1 b0 b1 c0 c1 d0 d1
  go_enter Try.func75, Try.ntmps75
  go_wp2_with (first | (go_at_call 97; refine (mayWe_any _ _ _).mono ?_; rintro e w' ⟨rfl, rfl⟩) | (go_at_call 98; refine (HU.out _).mono ?_; rintro e w1 ⟨rfl, hb⟩; (have sw1_0 : w.heap.size + 1 + 1 < w1.heap.size := below_lt hb (by go_size); have cw1_0 : w1.cell? ⟨w.heap.size + 1 + 1, 0, none⟩ = some (.int .i64 0) := below_at hb (show w.heap.size + 1 + 1 < _ by go_size) (by first | go_cell | simp [*]); have cw1_1 : w1.cell? ⟨w.heap.size + 1 + 1, 1, none⟩ = some (.int .i64 0) := below_at hb (show w.heap.size + 1 + 1 < _ by go_size) (by first | go_cell | simp [*]); have fw1_2 : w1.frozen? ⟨w.heap.size + 1 + 1, 0, none⟩ = false := below_fz hb (show w.heap.size + 1 + 1 < _ by go_size) (by first | go_cell | simp [*, go_sem]); have fw1_3 : w1.frozen? ⟨w.heap.size + 1 + 1, 1, none⟩ = false := below_fz hb (show w.heap.size + 1 + 1 < _ by go_size) (by first | go_cell | simp [*, go_sem]); have Hw1 : Hid (Below w.heap.size w w1) := Below.trans (by go_grown) (hb.mono (by go_size)); clear hb)))
  all_goals
   have hw1 := Hw1.out
   exact bodyPost_ret (v := .tuple #[.agg #[.int .i64 p, .int .i64 q], .int .i64 r]) (by simp [results, Try.results75, go_sem, *]) rfl ⟨rfl, by go_grown⟩
 all_goals
  have ht : timW a b c d = (0, 0, 2) := by simp [timW, h, g]
  rw [ht]
  clear ht
  go_enter Try.func75, Try.ntmps75
  go_wp2_with (first | (go_at_call 97; refine (mayWe_any _ _ _).mono ?_; rintro e w' ⟨rfl, rfl⟩))
  all_goals
   go_returns
   exact ⟨rfl, by go_grown⟩
def kV (k : Int) : Value := .agg #[.int .i64 (kA k), .int .i64 (kB k)]
theorem lessK_any (x y : Int) (w : World) :
  Calls Try.prog 132 #[kV x, kV y] w fun e w' => e = .returned (.bool (decide (x < y))) ∧ Below w.heap.size w w' := by
 refine (less_any (kA x) (kB x) (kA y) (kB y) w).mono ?_
 rintro e w' ⟨rfl, rfl⟩
 exact ⟨by rw [lsW_key], ((Below.refl _ _).alloc (Nat.le_refl _) _).alloc (by rw [World.size_alloc]; exact Nat.le_succ _) _⟩
theorem timesK_any (x y : Int) (hx : KeyOk x) (hy : KeyOk y) :
  (∀ w, Calls Try.prog 75 #[kV x, kV y] w fun e w' => e = .returned (.tuple #[kV (bothK x y), .int .i64 0]) ∧ Below w.heap.size w w') ∨ (bothK x y = noK ∧ ∃ p q : Int, ∀ w, Calls Try.prog 75 #[kV x, kV y] w fun e w' => e = .returned (.tuple #[.agg #[.int .i64 p, .int .i64 q], .int .i64 4]) ∧ Below w.heap.size w w') := by
 rcases timW_key hx hy with ⟨h0, h1, h2⟩ | ⟨h0, h1⟩
 ·refine .inl fun w => (timW_any (kA x) (kB x) (kA y) (kB y) w).mono ?_
  rintro e w' ⟨rfl, hb⟩
  exact ⟨by rw [h0, h1, h2]; rfl, hb⟩
 ·refine .inr ⟨h1, (timW (kA x) (kB x) (kA y) (kB y)).1, (timW (kA x) (kB x) (kA y) (kB y)).2.1, fun w => (timW_any (kA x) (kB x) (kA y) (kB y) w).mono ?_⟩
  rintro e w' ⟨rfl, hb⟩
  exact ⟨by rw [h0], hb⟩
end Go.Proofs.Ytobhjhjfannnnaa.Bw
namespace Go.Proofs.Ytobhjhjfannnnaa.Bw
open Go.ChangeShapes Go.WideShapes Go.ChangeAt Go.RowKit
open Go.Proofs.Ytobhjhjfannnnaa.Pl Go.Proofs.Ytobhjhjfannnnaa.Wt
set_option linter.unusedVariables false
set_option linter.unusedSimpArgs false
theorem noK_agg : (Value.agg #[.int .i64 1000000001, .int .i64 1000000001]) = kV noK := by unfold kV; rw [noK_parts.1, noK_parts.2]
theorem noWay_any (w : World) : Calls Try.prog 56 #[] w fun e w' => e = .returned (kV noK) ∧ Below w.heap.size w w' := by
 rw [← noK_agg]
 go_enter Try.func56, Try.ntmps56
 go_wp2
 go_returns
 exact ⟨rfl, by go_grown⟩
theorem both_any (x y : Int) (w : World) (hx : KeyOk x) (hy : KeyOk y) :
  Calls Try.prog 50 #[kV x, kV y] w fun e w' => e = .returned (kV (bothK x y)) ∧ Below w.heap.size w w' := by
 rcases timesK_any x y hx hy with HT0 | ⟨hz, p, q, HT0⟩
 ·have HT := hidP HT0
  unfold kV
  unfold kV at HT
  clear HT0 hx hy
  generalize kA x = xa at *
  generalize kB x = xb at *
  generalize kA y = ya at *
  generalize kB y = yb at *
  generalize kA (bothK x y) = za at *
  generalize kB (bothK x y) = zb at *
  go_enter Try.func50, Try.ntmps50
  go_wp2_with (first
   | (go_at_call 75; refine (HT.out _).mono ?_; rintro e w1 ⟨rfl, hb⟩; (have sw1_0 : w.heap.size + 1 + 1 < w1.heap.size := below_lt hb (by go_size); have cw1_0 : w1.cell? ⟨w.heap.size + 1 + 1, 0, none⟩ = some (.int .i64 0) := below_at hb (show w.heap.size + 1 + 1 < _ by go_size) (by first | go_cell | simp [*]); have cw1_1 : w1.cell? ⟨w.heap.size + 1 + 1, 1, none⟩ = some (.int .i64 0) := below_at hb (show w.heap.size + 1 + 1 < _ by go_size) (by first | go_cell | simp [*]); have fw1_2 : w1.frozen? ⟨w.heap.size + 1 + 1, 0, none⟩ = false := below_fz hb (show w.heap.size + 1 + 1 < _ by go_size) (by first | go_cell | simp [*, go_sem]); have fw1_3 : w1.frozen? ⟨w.heap.size + 1 + 1, 1, none⟩ = false := below_fz hb (show w.heap.size + 1 + 1 < _ by go_size) (by first | go_cell | simp [*, go_sem]); have Hw1 : Hid (Below w.heap.size w w1) := Below.trans (by go_grown) (hb.mono (by go_size)); clear hb)))
  all_goals
   have hw1 := Hw1.out
   exact bodyPost_ret (v := .agg #[.int .i64 za, .int .i64 zb]) (by simp [results, Try.results50, go_sem, *]) rfl ⟨rfl, by go_grown⟩
 ·have HT := hidP HT0
  have HNO := hidP (fun W => noWay_any W)
  rw [hz]
  rw [← noK_agg] at HNO ⊢
  unfold kV
  unfold kV at HT
  clear HT0 hx hy hz
  generalize kA x = xa at *
  generalize kB x = xb at *
  generalize kA y = ya at *
  generalize kB y = yb at *
  go_enter Try.func50, Try.ntmps50
  go_wp2_with (first
   | (go_at_call 75; refine (HT.out _).mono ?_; rintro e w1 ⟨rfl, hb⟩; (have sw1_0 : w.heap.size + 1 + 1 < w1.heap.size := below_lt hb (by go_size); have cw1_0 : w1.cell? ⟨w.heap.size + 1 + 1, 0, none⟩ = some (.int .i64 0) := below_at hb (show w.heap.size + 1 + 1 < _ by go_size) (by first | go_cell | simp [*]); have cw1_1 : w1.cell? ⟨w.heap.size + 1 + 1, 1, none⟩ = some (.int .i64 0) := below_at hb (show w.heap.size + 1 + 1 < _ by go_size) (by first | go_cell | simp [*]); have fw1_2 : w1.frozen? ⟨w.heap.size + 1 + 1, 0, none⟩ = false := below_fz hb (show w.heap.size + 1 + 1 < _ by go_size) (by first | go_cell | simp [*, go_sem]); have fw1_3 : w1.frozen? ⟨w.heap.size + 1 + 1, 1, none⟩ = false := below_fz hb (show w.heap.size + 1 + 1 < _ by go_size) (by first | go_cell | simp [*, go_sem]); have Hw1 : Hid (Below w.heap.size w w1) := Below.trans (by go_grown) (hb.mono (by go_size)); clear hb))
   | (go_at_call 56; refine (HNO.out _).mono ?_; rintro e w2 ⟨rfl, hb⟩; (have sw2_0 : w.heap.size + 1 + 1 < w2.heap.size := below_lt hb (by go_size); have cw2_0 : w2.cell? ⟨w.heap.size + 1 + 1, 0, none⟩ = some (.int .i64 0) := below_at hb (show w.heap.size + 1 + 1 < _ by go_size) (by first | go_cell | simp [*]); have cw2_1 : w2.cell? ⟨w.heap.size + 1 + 1, 1, none⟩ = some (.int .i64 0) := below_at hb (show w.heap.size + 1 + 1 < _ by go_size) (by first | go_cell | simp [*]); have fw2_2 : w2.frozen? ⟨w.heap.size + 1 + 1, 0, none⟩ = false := below_fz hb (show w.heap.size + 1 + 1 < _ by go_size) (by first | go_cell | simp [*, go_sem]); have fw2_3 : w2.frozen? ⟨w.heap.size + 1 + 1, 1, none⟩ = false := below_fz hb (show w.heap.size + 1 + 1 < _ by go_size) (by first | go_cell | simp [*, go_sem]); have Hw2 : Hid (Below w.heap.size w w2) := Below.trans (by (have hp := Hw1.out); go_grown) (hb.mono (by go_size)); clear hb)))
  all_goals
   have hw2 := Hw2.out
   exact bodyPost_ret (v := .agg #[.int .i64 1000000001, .int .i64 1000000001]) (by simp [results, Try.results50, go_sem, *]) rfl ⟨rfl, by go_grown⟩
theorem byArc_any (x y c z : Int) (w : World) : Calls Try.prog 51 #[.agg #[.int .i64 x, .int .i64 y, .int .i64 c, .int .i64 z]] w fun e w' => e = .returned (.agg #[.int .i64 c, .int .i64 1]) ∧ Below w.heap.size w w' := by
 go_enter Try.func51, Try.ntmps51
 go_wp2
 go_returns
 exact ⟨rfl, by go_grown⟩
theorem end_any (z : Int) (a : Option Addr) (n cap : Nat) (w : World) : Calls Try.prog 53 #[.agg #[.int .i64 z, .slice a n cap]] w fun e w' => e = .returned (.int .i64 (n : Int)) ∧ Below w.heap.size w w' := by
 go_enter Try.func53, Try.ntmps53
 go_wp2
 go_returns
 exact ⟨rfl, by go_grown⟩
theorem arcK (c : Int) : kV (c * 2147483648 + 1) = .agg #[.int .i64 c, .int .i64 1] := by
 unfold kV
 rw [(key_mk (a := c) (b := 1) (by decide) (by decide)).1, (key_mk (a := c) (b := 1) (by decide) (by decide)).2]
end Go.Proofs.Ytobhjhjfannnnaa.Bw
namespace Go.Proofs.Ytobhjhjfannnnaa.Pl
def swpW (l : List Ar) (i j : Nat) : List Ar := (l.set i (el l j)).set j (el l i)
theorem swpW_length (l : List Ar) (i j : Nat) : (swpW l i j).length = l.length := by simp [swpW]
theorem el_setW {l : List Ar} {q j : Nat} (hq : q < l.length) (x : Ar) : el (l.set q x) j = if j = q then x else el l j := by
 by_cases h : j = q
 ·subst h; rw [if_pos rfl, el_get (by simpa using hq)]; simp
 ·rw [if_neg h]; simp [el, List.getElem?_set_ne (Ne.symm h)]
theorem el_swpW {l : List Ar} {i j : Nat} (hi : i < l.length) (hj : j < l.length) (k : Nat) : el (swpW l i j) k = if k = j then el l i else if k = i then el l j else el l k := by
 unfold swpW
 rw [el_setW (by simpa using hj), el_setW hi]
theorem swpW_perm {l : List Ar} {i j : Nat} (hi : i < l.length) (hj : j < l.length) : (swpW l i j).Perm l := by
 have h := Array.swap_perm (xs := l.toArray) (i := i) (j := j) (by simpa using hi) (by simpa using hj)
 rw [Array.perm_iff_toList_perm] at h
 have e : (l.toArray.swap i j (by simpa using hi) (by simpa using hj)).toList = swpW l i j := by
  unfold swpW
  rw [el_get hi, el_get hj]
  simp [Array.swap]
 rw [e] at h
 exact h
theorem swpW_drop {l : List Ar} {i j n : Nat} (hi : i < n) (hj : j < n) : (swpW l i j).drop n = l.drop n := by
 unfold swpW
 rw [List.drop_set_of_lt (by omega), List.drop_set_of_lt (by omega)]
def HeapW (l : List Ar) (n : Nat) : Prop := ∀ k, 0 < k → k < n → (el l ((k - 1) / 2)).2.2.2 ≤ (el l k).2.2.2
theorem HeapW.nil : HeapW [] 0 := fun _ _ h => absurd h (Nat.not_lt_zero _)
theorem HeapW.root {l : List Ar} {n : Nat} (h : HeapW l n) : ∀ k, k < n → (el l 0).2.2.2 ≤ (el l k).2.2.2 := by
  intro k
  induction k using Nat.strongRecOn with
  | ind k ih =>
    intro hk
    by_cases e : k = 0
    · subst e; exact Int.le_refl _
    · have h1 := h k (by omega) hk
      have h2 := ih ((k - 1) / 2) (by omega) (by omega)
      omega
def UpW (l : List Ar) (j : Nat) : Prop := ∀ k, 0 < k → k < l.length → (k ≠ j → (el l ((k - 1) / 2)).2.2.2 ≤ (el l k).2.2.2) ∧ (0 < j → (k - 1) / 2 = j → (el l ((j - 1) / 2)).2.2.2 ≤ (el l k).2.2.2)
theorem UpW.start {l : List Ar} (h : HeapW l l.length) (x : Ar) : UpW (l ++ [x]) l.length := by
 intro k h0 hk
 have hk' : k < l.length + 1 := by simpa using hk
 constructor
 ·intro hne
  rw [el_left (by omega), el_left (by omega)]
  exact h k h0 (by omega)
 ·intro h1 h2; omega
theorem UpW.swap {l : List Ar} {j : Nat} (h : UpW l j) (h0 : 0 < j) (hj : j < l.length) (hlt : (el l j).2.2.2 < (el l ((j - 1) / 2)).2.2.2) : UpW (swpW l ((j - 1) / 2) j) ((j - 1) / 2) := by
 generalize hi : (j - 1) / 2 = i at *
 have hij : i < j := by omega
 intro k hk0 hk
 rw [swpW_length] at hk
 have hjj := h j h0 hj
 have hkk := h k hk0 hk
 have e := fun p => el_swpW (l := l) (i := i) (j := j) (by omega) hj p
 constructor
 ·intro hki
  rw [e k, if_neg hki, e ((k - 1) / 2)]
  by_cases c1 : k = j
  ·subst c1
   rw [if_pos rfl, hi, if_neg (by omega), if_pos rfl]
   omega
  ·rw [if_neg c1]
   have h1 := hkk.1 c1
   by_cases c2 : (k - 1) / 2 = j
   ·rw [if_pos c2]
    have := hkk.2 h0 c2
    rw [hi] at this
    exact this
   ·rw [if_neg c2]
    by_cases c3 : (k - 1) / 2 = i
    ·rw [if_pos c3]
     rw [c3] at h1
     omega
    ·rw [if_neg c3]; exact h1
 ·intro hi0 hki
  have hpi : (i - 1) / 2 < i := by omega
  rw [e ((i - 1) / 2), if_neg (by omega), if_neg (by omega), e k]
  have h1 := (h i hi0 (by omega)).1 (by omega)
  by_cases c1 : k = j
  ·rw [if_pos c1]; exact h1
  ·rw [if_neg c1, if_neg (by omega)]
   have h2 := hkk.1 c1
   rw [hki] at h2
   omega
theorem UpW.top {l : List Ar} (h : UpW l 0) : HeapW l l.length := fun k h0 hk => (h k h0 hk).1 (by omega)
theorem UpW.stop {l : List Ar} {j : Nat} (h : UpW l j) (hle : ¬ (el l j).2.2.2 < (el l ((j - 1) / 2)).2.2.2) : HeapW l l.length := by
 intro k h0 hk
 by_cases c : k = j
 ·subst c; omega
 ·exact (h k h0 hk).1 c
def DownW (l : List Ar) (i n : Nat) : Prop := ∀ k, 0 < k → k < n → ((k - 1) / 2 ≠ i → (el l ((k - 1) / 2)).2.2.2 ≤ (el l k).2.2.2) ∧ (0 < i → (k - 1) / 2 = i → (el l ((i - 1) / 2)).2.2.2 ≤ (el l k).2.2.2)
theorem DownW.start {l : List Ar} {n : Nat} (h : HeapW l l.length) (hn : l.length = n + 1) : DownW (swpW l 0 n) 0 n := by
 intro k h0 hk
 have e := fun p => el_swpW (l := l) (i := 0) (j := n) (by omega) (by omega) p
 constructor
 ·intro hne
  rw [e, e k, if_neg (by omega), if_neg (by omega), if_neg (by omega), if_neg (by omega)]
  exact h k h0 (by omega)
 ·intro h1; omega
def LowW (l : List Ar) (i n c : Nat) : Prop := c < n ∧ 0 < c ∧ (c - 1) / 2 = i ∧ ∀ k, 0 < k → k < n → (k - 1) / 2 = i → (el l c).2.2.2 ≤ (el l k).2.2.2
theorem LowW.left {l : List Ar} {i n : Nat} (h1 : 2 * i + 1 < n) (h2 : 2 * i + 1 + 1 < n → ¬ (el l (2 * i + 1 + 1)).2.2.2 < (el l (2 * i + 1)).2.2.2) : LowW l i n (2 * i + 1) := by
 refine ⟨h1, by omega, by omega, fun k k0 hk hp => ?_⟩
 have : k = 2 * i + 1 ∨ k = 2 * i + 1 + 1 := by omega
 rcases this with rfl | rfl
 ·exact Int.le_refl _
 ·have := h2 hk; omega
theorem LowW.right {l : List Ar} {i n : Nat} (h1 : 2 * i + 1 + 1 < n) (h2 : (el l (2 * i + 1 + 1)).2.2.2 < (el l (2 * i + 1)).2.2.2) : LowW l i n (2 * i + 1 + 1) := by
 refine ⟨h1, by omega, by omega, fun k k0 hk hp => ?_⟩
 have : k = 2 * i + 1 ∨ k = 2 * i + 1 + 1 := by omega
 rcases this with rfl | rfl
 ·omega
 ·exact Int.le_refl _
theorem DownW.swap {l : List Ar} {i n c : Nat} (h : DownW l i n) (hn : n ≤ l.length) (hc : LowW l i n c) (hlt : (el l c).2.2.2 < (el l i).2.2.2) : DownW (swpW l i c) c n := by
 obtain ⟨hcn, hc0, hci, hmin⟩ := hc
 have hic : i < c := by omega
 intro k hk0 hk
 have e := fun p => el_swpW (l := l) (i := i) (j := c) (by omega) (by omega) p
 constructor
 ·intro hkc
  rw [e ((k - 1) / 2), if_neg hkc, e k]
  by_cases c3 : (k - 1) / 2 = i
  ·rw [if_pos c3]
   by_cases c1 : k = c
   ·rw [if_pos c1]; omega
   ·rw [if_neg c1, if_neg (by omega)]
    exact hmin k hk0 hk c3
  ·rw [if_neg c3]
   have h1 := (h k hk0 hk).1 c3
   by_cases c1 : k = c
   ·subst c1; exact absurd hci c3
   ·rw [if_neg c1]
    by_cases c2 : k = i
    ·subst c2
     rw [if_pos rfl]
     exact (h c hc0 hcn).2 hk0 hci
    ·rw [if_neg c2]; exact h1
 ·intro _ hkc
  rw [hci, e i, if_neg (by omega), if_pos rfl, e k, if_neg (by omega), if_neg (by omega)]
  have h1 := (h k hk0 hk).1 (by omega)
  rw [hkc] at h1
  exact h1
theorem DownW.leaf {l : List Ar} {i n : Nat} (h : DownW l i n) (hl : n ≤ 2 * i + 1) : HeapW l n := fun k h0 hk => (h k h0 hk).1 (by omega)
theorem DownW.stop {l : List Ar} {i n c : Nat} (h : DownW l i n) (hc : LowW l i n c) (hle : ¬ (el l c).2.2.2 < (el l i).2.2.2) : HeapW l n := by
 intro k h0 hk
 by_cases e : (k - 1) / 2 = i
 ·have := hc.2.2.2 k h0 hk e
  rw [e]; omega
 ·exact (h k h0 hk).1 e
theorem popW_facts {l m : List Ar} {n : Nat} (h : HeapW l l.length) (hn : l.length = n + 1) (hp : m.Perm (swpW l 0 n)) (hd : m.drop n = (swpW l 0 n).drop n) (hm : HeapW m n) :
  el m n = el l 0 ∧ HeapW (m.take n) n ∧ (el l 0 :: m.take n).Perm l ∧ ∀ y ∈ m.take n, (el l 0).2.2.2 ≤ y.2.2.2 := by
 have hml : m.length = n + 1 := by rw [hp.length_eq, swpW_length, hn]
 have h1 : el m n = el l 0 := by
  have e1 : el (m.drop n) 0 = el m n := by simp [el]
  have e2 : el ((swpW l 0 n).drop n) 0 = el (swpW l 0 n) n := by simp [el]
  rw [← e1, hd, e2, el_swpW (by omega) (by omega), if_pos rfl]
 have h2 : m = m.take n ++ [el l 0] := by
  have := take_el (l := m) (k := n) (by omega)
  rw [List.take_of_length_le (by omega), h1] at this
  exact this
 have h3 : (el l 0 :: m.take n).Perm l := by
  have h4 : m.Perm l := hp.trans (swpW_perm (by omega) (by omega))
  rw [h2] at h4
  exact (List.perm_append_singleton _ _).symm.trans h4
 refine ⟨h1, ?_, h3, fun y hy => ?_⟩
 ·intro k h0 hk
  rw [el_take (by omega), el_take hk]
  exact hm k h0 hk
 ·have : y ∈ l := h3.mem_iff.1 (List.mem_cons_of_mem _ hy)
  obtain ⟨k, hk, rfl⟩ := mem_el this
  exact h.root k hk
end Go.Proofs.Ytobhjhjfannnnaa.Pl
