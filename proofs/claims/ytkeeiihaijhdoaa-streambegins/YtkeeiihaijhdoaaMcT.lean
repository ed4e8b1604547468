/- Whether a number lies between two others; which states and arcs may be. -/
import Derived.Test.YtkeeiihaijhdoaaMcQ
namespace Go.Proofs.Ytkeeiihaijhdoaa.Wt
open Go.ChangeShapes Go.WideShapes Go.ChangeAt Go.RowKit
open Go.Proofs.Ytkeeiihaijhdoaa.Pl
set_option linter.unusedVariables false
/-- The value v is the question whether a number is from lo to hi. -/
def Betw (w : World) (v : Value) (lo hi : Int) : Prop := ∃ b0 b1, v = .func (.func 75) #[] #[.pointer (some ⟨b0, 0, none⟩), .pointer (some ⟨b1, 0, none⟩)] ∧ w.cell? ⟨b0, 0, none⟩ = some (.int .i64 lo) ∧ w.cell? ⟨b1, 0, none⟩ = some (.int .i64 hi)
theorem Betw.later {w w' : World} {v : Value} {lo hi : Int} (h : Betw w v lo hi) {B : Nat} (hb : Below B w w') (hB : w.heap.size ≤ B) : Betw w' v lo hi := by
  obtain ⟨b0, b1, hv, h0, h1⟩ := h
  exact ⟨b0, b1, hv, (hb.cell (Nat.lt_of_lt_of_le (World.block_lt_of_cell? _ _ h0) hB)).trans h0, (hb.cell (Nat.lt_of_lt_of_le (World.block_lt_of_cell? _ _ h1) hB)).trans h1⟩
theorem between1_any (n lo hi : Int) (b0 b1 : Nat) (w : World) (h0 : w.cell? ⟨b0, 0, none⟩ = some (.int .i64 lo)) (h1 : w.cell? ⟨b1, 0, none⟩ = some (.int .i64 hi)) (r : Bool) (hr : inB n lo hi = r) :
    Calls Try.prog 75 #[.int .i64 n, .pointer (some ⟨b0, 0, none⟩), .pointer (some ⟨b1, 0, none⟩)] w fun e w' => e = .returned (.bool r) ∧ w = w' := by
  subst hr
  unfold inB
  go_enter Try.func75, Try.ntmps75
  go_wp2
  all_goals
    go_ret
    exact ⟨ret_boolK (by simp_all <;> intros <;> omega), by simp_all⟩
/-- A variable that holds such a question. -/
def VarB (w : World) (c : Nat) (lo hi : Int) : Prop := ∃ v, w.cell? ⟨c, 0, none⟩ = some v ∧ Betw w v lo hi
theorem VarB.later {w w' : World} {c : Nat} {lo hi : Int} (h : VarB w c lo hi) {B : Nat} (hb : Below B w w') (hB : w.heap.size ≤ B) : VarB w' c lo hi := by
  obtain ⟨v, h0, h1⟩ := h
  exact ⟨v, (hb.cell (Nat.lt_of_lt_of_le (World.block_lt_of_cell? _ _ h0) hB)).trans h0, h1.later hb hB⟩
set_option maxRecDepth 100000 in
theorem mayEnd_any (f : Int) (va : Value) (hva : ∃ a n c, va = .slice a n c) (c : Nat) (w : World) (hc : VarB w c 0 1000000000) (r : Bool) (hr : finB f = r) :
    Calls Try.prog 67 #[.agg #[.int .i64 f, va], .pointer (some ⟨c, 0, none⟩)] w fun e w' => e = .returned (.bool r) ∧ Below w.heap.size w w' := by
  subst hr
  obtain ⟨a, n, cp, rfl⟩ := hva
  obtain ⟨v, hv, b0, b1, rfl, h0, h1⟩ := hc
  have l0 := World.block_lt_of_cell? _ _ hv
  have l1 := World.block_lt_of_cell? _ _ h0
  have l2 := World.block_lt_of_cell? _ _ h1
  simp only at l0 l1 l2
  by_cases hx : f = 1000000001
  · subst hx
    go_enter Try.func67, Try.ntmps67
    go_wp2
    go_ret
    exact ⟨rfl, by go_grown⟩
  · have hne : (f == 1000000001) = false := by simpa using hx
    have HE : Hid (inB f 0 1000000000 = finB f) := by show _ = _; simp [finB, hx]
    clear hx
    go_enter Try.func67, Try.ntmps67
    go_wp2_with (first | (go_at_call 75; (with_reducible refine (between1_any _ _ _ _ _ _ (by go_cell) (by go_cell) _ HE.out).mono ?_); rintro e w' ⟨rfl, rfl⟩))
    go_ret
    exact ⟨rfl, by go_grown⟩
set_option maxRecDepth 100000 in
set_option maxHeartbeats 1000000 in
theorem mayBe_any (x : Ar) (cl cc cs : Nat) (n : Int) (w : World) (hl : VarB w cl 0 1000) (hc : VarB w cc 0 1000000000) (hs : VarB w cs 0 n) (r : Bool) (hr : (inB x.1 0 1000 && inB x.2.1 0 1000 && inB x.2.2.1 0 1000000000 && inB x.2.2.2 0 n) = r) :
    Calls Try.prog 66 #[.agg #[.int .i64 x.1, .int .i64 x.2.1, .int .i64 x.2.2.1, .int .i64 x.2.2.2], .pointer (some ⟨cl, 0, none⟩), .pointer (some ⟨cc, 0, none⟩), .pointer (some ⟨cs, 0, none⟩)] w fun e w' => e = .returned (.bool r) ∧ Below w.heap.size w w' := by
  subst hr
  obtain ⟨x0, x1, x2, x3⟩ := x
  simp only
  obtain ⟨vl, hl, bl0, bl1, rfl, hl0, hl1⟩ := hl
  obtain ⟨vc, hc, bc0, bc1, rfl, hc0, hc1⟩ := hc
  obtain ⟨vs, hs, bs0, bs1, rfl, hs0, hs1⟩ := hs
  have l0 := World.block_lt_of_cell? _ _ hl
  have l1 := World.block_lt_of_cell? _ _ hl0
  have l2 := World.block_lt_of_cell? _ _ hl1
  have l3 := World.block_lt_of_cell? _ _ hc
  have l4 := World.block_lt_of_cell? _ _ hc0
  have l5 := World.block_lt_of_cell? _ _ hc1
  have l6 := World.block_lt_of_cell? _ _ hs
  have l7 := World.block_lt_of_cell? _ _ hs0
  have l8 := World.block_lt_of_cell? _ _ hs1
  simp only at l0 l1 l2 l3 l4 l5 l6 l7 l8
  generalize hr1 : inB x0 0 1000 = r1
  generalize hr2 : inB x1 0 1000 = r2
  generalize hr3 : inB x2 0 1000000000 = r3
  generalize hr4 : inB x3 0 n = r4
  have H1 : Hid (inB x0 0 1000 = r1) := hr1
  have H2 : Hid (inB x1 0 1000 = r2) := hr2
  have H3 : Hid (inB x2 0 1000000000 = r3) := hr3
  have H4 : Hid (inB x3 0 n = r4) := hr4
  clear hr1 hr2 hr3 hr4
  cases r1
  · go_enter Try.func66, Try.ntmps66
    go_wp2_with (first | (go_at_call 75; (with_reducible refine (between1_any _ _ _ _ _ _ (by go_cell) (by go_cell) _ H1.out).mono ?_); rintro e w' ⟨rfl, rfl⟩))
    go_ret
    exact ⟨rfl, by go_grown⟩
  cases r2
  · go_enter Try.func66, Try.ntmps66
    go_wp2_with (first | (go_at_call 75; (with_reducible refine (between1_any _ _ _ _ _ _ (by go_cell) (by go_cell) _ H1.out).mono ?_); rintro e w' ⟨rfl, rfl⟩) | (go_at_call 75; (with_reducible refine (between1_any _ _ _ _ _ _ (by go_cell) (by go_cell) _ H2.out).mono ?_); rintro e w' ⟨rfl, rfl⟩))
    go_ret
    exact ⟨rfl, by go_grown⟩
  cases r3
  · go_enter Try.func66, Try.ntmps66
    go_wp2_with (first | (go_at_call 75; (with_reducible refine (between1_any _ _ _ _ _ _ (by go_cell) (by go_cell) _ H1.out).mono ?_); rintro e w' ⟨rfl, rfl⟩) | (go_at_call 75; (with_reducible refine (between1_any _ _ _ _ _ _ (by go_cell) (by go_cell) _ H2.out).mono ?_); rintro e w' ⟨rfl, rfl⟩) | (go_at_call 75; (with_reducible refine (between1_any _ _ _ _ _ _ (by go_cell) (by go_cell) _ H3.out).mono ?_); rintro e w' ⟨rfl, rfl⟩))
    go_ret
    exact ⟨rfl, by go_grown⟩
  go_enter Try.func66, Try.ntmps66
  go_wp2_with (first | (go_at_call 75; (with_reducible refine (between1_any _ _ _ _ _ _ (by go_cell) (by go_cell) _ H1.out).mono ?_); rintro e w' ⟨rfl, rfl⟩) | (go_at_call 75; (with_reducible refine (between1_any _ _ _ _ _ _ (by go_cell) (by go_cell) _ H2.out).mono ?_); rintro e w' ⟨rfl, rfl⟩) | (go_at_call 75; (with_reducible refine (between1_any _ _ _ _ _ _ (by go_cell) (by go_cell) _ H3.out).mono ?_); rintro e w' ⟨rfl, rfl⟩) | (go_at_call 75; (with_reducible refine (between1_any _ _ _ _ _ _ (by go_cell) (by go_cell) _ H4.out).mono ?_); rintro e w' ⟨rfl, rfl⟩))
  go_ret
  exact ⟨rfl, by go_grown⟩
theorem mayEnd_ask (c : Nat) (l : List St) (w : World) (hc : VarB w c 0 1000000000) : AskS 67 #[.pointer (some ⟨c, 0, none⟩)] (fun s => finB s.1) l w :=
  ⟨enters_of Try.func67 (by kernel_rfl) rfl, fun j hj W va hW hA => mayEnd_any _ va (by obtain ⟨a, cp, h⟩ := hA.sl; exact ⟨a, _, cp, h⟩) c W (hc.later hW (Nat.le_refl _)) _ rfl⟩
theorem mayBe_ask (cl cc cs : Nat) (n : Nat) (w : World) (hl : VarB w cl 0 1000) (hc : VarB w cc 0 1000000000) (hs : VarB w cs 0 ((n : Int) - 1)) : AskA 66 #[.pointer (some ⟨cl, 0, none⟩), .pointer (some ⟨cc, 0, none⟩), .pointer (some ⟨cs, 0, none⟩)] (arcB n) w :=
  ⟨enters_of Try.func66 (by kernel_rfl) rfl, fun a W hW => mayBe_any a cl cc cs _ W (hl.later hW (Nat.le_refl _)) (hc.later hW (Nat.le_refl _)) (hs.later hW (Nat.le_refl _)) _ rfl⟩
theorem all_both (n : Nat) (l : List St) : l.all (stB n) = (l.all (fun s => finB s.1) && l.all (fun s => s.2.all (arcB n))) := by
  induction l with
  | nil => rfl
  | cons s l ih =>
    simp only [List.all_cons, ih, stB]
    cases finB s.1 <;> cases s.2.all (arcB n) <;> cases l.all (fun s => finB s.1) <;> rfl
end Go.Proofs.Ytkeeiihaijhdoaa.Wt
