/- Whether a number lies between two others; which states and arcs may be. -/
import Derived.Test.YtfpibdaedfilaaaHai
import Derived.Laws.EntriesVeiled
namespace Go.Proofs.Ytfpibdaedfilaaa.Wt
open Go.ChangeShapes Go.WideShapes Go.ChangeAt Go.RowKit
open Go.Proofs.Ytfpibdaedfilaaa.Pl
set_option linter.unusedVariables false
def Betw (w : World) (v : Value) (lo hi : Int) : Prop := ∃ b0 b1, v = .func (.func 88) #[] #[.pointer (some ⟨b0, 0, none⟩), .pointer (some ⟨b1, 0, none⟩)] ∧ w.cell? ⟨b0, 0, none⟩ = some (.int .i64 lo) ∧ w.cell? ⟨b1, 0, none⟩ = some (.int .i64 hi)
theorem Betw.later {w w' : World} {v : Value} {lo hi : Int} (h : Betw w v lo hi) {B : Nat} (hb : Below B w w') (hB : w.heap.size ≤ B) : Betw w' v lo hi := by
 obtain ⟨b0, b1, hv, h0, h1⟩ := h
 exact ⟨b0, b1, hv, (hb.cell (Nat.lt_of_lt_of_le (World.block_lt_of_cell? _ _ h0) hB)).trans h0, (hb.cell (Nat.lt_of_lt_of_le (World.block_lt_of_cell? _ _ h1) hB)).trans h1⟩
theorem between1_any (n lo hi : Int) (b0 b1 : Nat) (w : World) (h0 : w.cell? ⟨b0, 0, none⟩ = some (.int .i64 lo)) (h1 : w.cell? ⟨b1, 0, none⟩ = some (.int .i64 hi)) (r : Bool) (hr : inB n lo hi = r) :
  Calls Try.prog 88 #[.int .i64 n, .pointer (some ⟨b0, 0, none⟩), .pointer (some ⟨b1, 0, none⟩)] w fun e w' => e = .returned (.bool r) ∧ w = w' := by
 subst hr
 unfold inB
 go_enter Try.func88, Try.ntmps88
 go_wp2
 all_goals
  go_ret
  exact ⟨ret_boolK (by simp_all <;> intros <;> omega), by simp_all⟩
def VarB (w : World) (c : Nat) (lo hi : Int) : Prop := ∃ v, w.cell? ⟨c, 0, none⟩ = some v ∧ Betw w v lo hi
theorem VarB.later {w w' : World} {c : Nat} {lo hi : Int} (h : VarB w c lo hi) {B : Nat} (hb : Below B w w') (hB : w.heap.size ≤ B) : VarB w' c lo hi := by
 obtain ⟨v, h0, h1⟩ := h
 exact ⟨v, (hb.cell (Nat.lt_of_lt_of_le (World.block_lt_of_cell? _ _ h0) hB)).trans h0, h1.later hb hB⟩
set_option maxRecDepth 100000 in
theorem mayEnd_any (f : Int) (va : Value) (hva : ∃ a n c, va = .slice a n c) (c : Nat) (w : World) (hc : VarB w c 0 1000000000) (r : Bool) (hr : finB f = r) :
  Calls Try.prog 77 #[.agg #[.int .i64 f, va], .pointer (some ⟨c, 0, none⟩)] w fun e w' => e = .returned (.bool r) ∧ Below w.heap.size w w' := by
 subst hr
 obtain ⟨a, n, cp, rfl⟩ := hva
 obtain ⟨v, hv, b0, b1, rfl, h0, h1⟩ := hc
 have l0 := World.block_lt_of_cell? _ _ hv
 have l1 := World.block_lt_of_cell? _ _ h0
 have l2 := World.block_lt_of_cell? _ _ h1
 simp only at l0 l1 l2
 by_cases hx : f = 1000000001
 ·subst hx
  go_enter Try.func77, Try.ntmps77
  go_wp2
  go_ret
  exact ⟨rfl, by go_grown⟩
 ·have hne : (f == 1000000001) = false := by simpa using hx
  have HE : Hid (inB f 0 1000000000 = finB f) := by show _ = _; simp [finB, hx]
  clear hx
  go_enter Try.func77, Try.ntmps77
  go_wp2_with (first | (go_at_call 88; (with_reducible refine (between1_any _ _ _ _ _ _ (by go_cell) (by go_cell) _ HE.out).mono ?_); rintro e w' ⟨rfl, rfl⟩))
  go_ret
  exact ⟨rfl, by go_grown⟩
set_option maxRecDepth 100000 in
set_option maxHeartbeats 1000000 in
theorem mayBe_any (x : Ar) (cl cc cs : Nat) (n : Int) (w : World) (hl : VarB w cl 0 1000) (hc : VarB w cc 0 1000000000) (hs : VarB w cs 0 n) (r : Bool) (hr : (inB x.1 0 1000 && inB x.2.1 0 1000 && inB x.2.2.1 0 1000000000 && inB x.2.2.2 0 n) = r) :
  Calls Try.prog 76 #[.agg #[.int .i64 x.1, .int .i64 x.2.1, .int .i64 x.2.2.1, .int .i64 x.2.2.2], .pointer (some ⟨cl, 0, none⟩), .pointer (some ⟨cc, 0, none⟩), .pointer (some ⟨cs, 0, none⟩)] w fun e w' => e = .returned (.bool r) ∧ Below w.heap.size w w' := by
 subst hr
 obtain ⟨x0, x1, x2, x3⟩ := x
 simp only
 obtain ⟨vl, hl, bl0, bl1, rfl, hl0, hl1⟩ := hl
 obtain ⟨vc, hc, bc0, bc1, rfl, hc0, hc1⟩ := hc
 obtain ⟨vs, hs, bs0, bs1, rfl, hs0, hs1⟩ := hs
 have l0 := World.block_lt_of_cell? _ _ hl
 have l1 := World.block_lt_of_cell? _ _ hl0
 have l2 := World.block_lt_of_cell? _ _ hl1
 have l3 := World.block_lt_of_cell? _ _ hc
 have l4 := World.block_lt_of_cell? _ _ hc0
 have l5 := World.block_lt_of_cell? _ _ hc1
 have l6 := World.block_lt_of_cell? _ _ hs
 have l7 := World.block_lt_of_cell? _ _ hs0
 have l8 := World.block_lt_of_cell? _ _ hs1
 simp only at l0 l1 l2 l3 l4 l5 l6 l7 l8
 generalize hr1 : inB x0 0 1000 = r1
 generalize hr2 : inB x1 0 1000 = r2
 generalize hr3 : inB x2 0 1000000000 = r3
 generalize hr4 : inB x3 0 n = r4
 have H1 : Hid (inB x0 0 1000 = r1) := hr1
 have H2 : Hid (inB x1 0 1000 = r2) := hr2
 have H3 : Hid (inB x2 0 1000000000 = r3) := hr3
 have H4 : Hid (inB x3 0 n = r4) := hr4
 clear hr1 hr2 hr3 hr4
 cases r1
 ·go_enter Try.func76, Try.ntmps76
  go_wp2_with (first | (go_at_call 88; (with_reducible refine (between1_any _ _ _ _ _ _ (by go_cell) (by go_cell) _ H1.out).mono ?_); rintro e w' ⟨rfl, rfl⟩))
  go_ret
  exact ⟨rfl, by go_grown⟩
 cases r2
 ·go_enter Try.func76, Try.ntmps76
  go_wp2_with (first | (go_at_call 88; (with_reducible refine (between1_any _ _ _ _ _ _ (by go_cell) (by go_cell) _ H1.out).mono ?_); rintro e w' ⟨rfl, rfl⟩) | (go_at_call 88; (with_reducible refine (between1_any _ _ _ _ _ _ (by go_cell) (by go_cell) _ H2.out).mono ?_); rintro e w' ⟨rfl, rfl⟩))
  go_ret
  exact ⟨rfl, by go_grown⟩
 cases r3
 ·go_enter Try.func76, Try.ntmps76
  go_wp2_with (first | (go_at_call 88; (with_reducible refine (between1_any _ _ _ _ _ _ (by go_cell) (by go_cell) _ H1.out).mono ?_); rintro e w' ⟨rfl, rfl⟩) | (go_at_call 88; (with_reducible refine (between1_any _ _ _ _ _ _ (by go_cell) (by go_cell) _ H2.out).mono ?_); rintro e w' ⟨rfl, rfl⟩) | (go_at_call 88; (with_reducible refine (between1_any _ _ _ _ _ _ (by go_cell) (by go_cell) _ H3.out).mono ?_); rintro e w' ⟨rfl, rfl⟩))
  go_ret
  exact ⟨rfl, by go_grown⟩
 go_enter Try.func76, Try.ntmps76
 go_wp2_with (first | (go_at_call 88; (with_reducible refine (between1_any _ _ _ _ _ _ (by go_cell) (by go_cell) _ H1.out).mono ?_); rintro e w' ⟨rfl, rfl⟩) | (go_at_call 88; (with_reducible refine (between1_any _ _ _ _ _ _ (by go_cell) (by go_cell) _ H2.out).mono ?_); rintro e w' ⟨rfl, rfl⟩) | (go_at_call 88; (with_reducible refine (between1_any _ _ _ _ _ _ (by go_cell) (by go_cell) _ H3.out).mono ?_); rintro e w' ⟨rfl, rfl⟩) | (go_at_call 88; (with_reducible refine (between1_any _ _ _ _ _ _ (by go_cell) (by go_cell) _ H4.out).mono ?_); rintro e w' ⟨rfl, rfl⟩))
 go_ret
 exact ⟨rfl, by go_grown⟩
theorem mayEnd_ask (c : Nat) (l : List St) (w : World) (hc : VarB w c 0 1000000000) : AskS 77 #[.pointer (some ⟨c, 0, none⟩)] (fun s => finB s.1) l w :=
 ⟨enters_of Try.func77 (by kernel_rfl) rfl, fun j hj W va hW hA => mayEnd_any _ va (by obtain ⟨a, cp, h⟩ := hA.sl; exact ⟨a, _, cp, h⟩) c W (hc.later hW (Nat.le_refl _)) _ rfl⟩
theorem mayBe_ask (cl cc cs : Nat) (n : Nat) (w : World) (hl : VarB w cl 0 1000) (hc : VarB w cc 0 1000000000) (hs : VarB w cs 0 ((n : Int) - 1)) : AskA 76 #[.pointer (some ⟨cl, 0, none⟩), .pointer (some ⟨cc, 0, none⟩), .pointer (some ⟨cs, 0, none⟩)] (arcB n) w :=
 ⟨enters_of Try.func76 (by kernel_rfl) rfl, fun a W hW => mayBe_any a cl cc cs _ W (hl.later hW (Nat.le_refl _)) (hc.later hW (Nat.le_refl _)) (hs.later hW (Nat.le_refl _)) _ rfl⟩
theorem all_both (n : Nat) (l : List St) : l.all (stB n) = (l.all (fun s => finB s.1) && l.all (fun s => s.2.all (arcB n))) := by
  induction l with
  | nil => rfl
  | cons s l ih =>
    simp only [List.all_cons, ih, stB]
    cases finB s.1 <;> cases s.2.all (arcB n) <;> cases l.all (fun s => finB s.1) <;> rfl
theorem between_any (lo hi : Int) (w : World) :
  Calls Try.prog 75 #[.int .i64 lo, .int .i64 hi] w fun e w' => ∃ b0 b1, e = .returned (.func (.func 88) #[] #[.pointer (some ⟨b0, 0, none⟩), .pointer (some ⟨b1, 0, none⟩)]) ∧ w'.cell? ⟨b0, 0, none⟩ = some (.int .i64 lo) ∧ w'.cell? ⟨b1, 0, none⟩ = some (.int .i64 hi) ∧ Below w.heap.size w w' := by
 have hmf : ∀ (fn : Fn) (first cap : Array Value) (w : World), (Instr.makeFunc fn first cap).run Try.prog w = .ok (.func fn first cap) w := fun _ _ _ _ => rfl
 go_enter Try.func75, Try.ntmps75
 go_wp2
 go_ret
 exact ⟨_, _, rfl, by go_cell, by go_cell, by go_grown⟩
theorem varsB {w4 : World} {p2 p3 p4 p5 p6 p7 c : Nat} {n : Int} (u2 : w4.cell? ⟨p2, 0, none⟩ = some (.int .i64 0)) (u3 : w4.cell? ⟨p3, 0, none⟩ = some (.int .i64 n)) (u4 : w4.cell? ⟨p4, 0, none⟩ = some (.int .i64 0)) (u5 : w4.cell? ⟨p5, 0, none⟩ = some (.int .i64 1000)) (u6 : w4.cell? ⟨p6, 0, none⟩ = some (.int .i64 0)) (u7 : w4.cell? ⟨p7, 0, none⟩ = some (.int .i64 1000000000))
  (hc : w4.cell? ⟨c, 0, none⟩ = some (.func (.func 88) #[] #[.pointer (some ⟨p2, 0, none⟩), .pointer (some ⟨p3, 0, none⟩)])) :
  VarB ((w4.alloc (.cells #[(.func (.func 88) #[] #[.pointer (some ⟨p4, 0, none⟩), .pointer (some ⟨p5, 0, none⟩)])] 127)).alloc (.cells #[(.func (.func 88) #[] #[.pointer (some ⟨p6, 0, none⟩), .pointer (some ⟨p7, 0, none⟩)])] 127)) c 0 n ∧ VarB ((w4.alloc (.cells #[(.func (.func 88) #[] #[.pointer (some ⟨p4, 0, none⟩), .pointer (some ⟨p5, 0, none⟩)])] 127)).alloc (.cells #[(.func (.func 88) #[] #[.pointer (some ⟨p6, 0, none⟩), .pointer (some ⟨p7, 0, none⟩)])] 127)) w4.heap.size 0 1000 ∧ VarB ((w4.alloc (.cells #[(.func (.func 88) #[] #[.pointer (some ⟨p4, 0, none⟩), .pointer (some ⟨p5, 0, none⟩)])] 127)).alloc (.cells #[(.func (.func 88) #[] #[.pointer (some ⟨p6, 0, none⟩), .pointer (some ⟨p7, 0, none⟩)])] 127)) (w4.heap.size + 1) 0 1000000000 ∧ Below w4.heap.size w4 ((w4.alloc (.cells #[(.func (.func 88) #[] #[.pointer (some ⟨p4, 0, none⟩), .pointer (some ⟨p5, 0, none⟩)])] 127)).alloc (.cells #[(.func (.func 88) #[] #[.pointer (some ⟨p6, 0, none⟩), .pointer (some ⟨p7, 0, none⟩)])] 127)) := by
 have hb : Below w4.heap.size w4 ((w4.alloc (.cells #[(.func (.func 88) #[] #[.pointer (some ⟨p4, 0, none⟩), .pointer (some ⟨p5, 0, none⟩)])] 127)).alloc (.cells #[(.func (.func 88) #[] #[.pointer (some ⟨p6, 0, none⟩), .pointer (some ⟨p7, 0, none⟩)])] 127)) := ((Below.refl _ _).alloc (Nat.le_refl _) _).alloc (by simp) _
 have h1 := Blk.made (w4.alloc (.cells #[(.func (.func 88) #[] #[.pointer (some ⟨p4, 0, none⟩), .pointer (some ⟨p5, 0, none⟩)])] 127)) #[(.func (.func 88) #[] #[.pointer (some ⟨p6, 0, none⟩), .pointer (some ⟨p7, 0, none⟩)])] 127
 simp only [World.size_alloc] at h1
 exact ⟨⟨_, low hc hb, _, _, rfl, low u2 hb, low u3 hb⟩, ⟨_, ((Blk.made w4 #[(.func (.func 88) #[] #[.pointer (some ⟨p4, 0, none⟩), .pointer (some ⟨p5, 0, none⟩)])] 127).alloc _).cell 0 rfl, _, _, rfl, low u4 hb, low u5 hb⟩, ⟨_, h1.cell 0 rfl, _, _, rfl, low u6 hb, low u7 hb⟩, hb⟩
set_option maxRecDepth 100000 in
set_option maxHeartbeats 2000000 in
theorem isInRange_any (v : Value) (m : Mc) (w : World) (h : Mach w v m) (hok : okM m) (h60 : m.2.length ≤ 60) (r : Bool) (hr : rangeB m = r) :
  Calls Try.prog 51 #[v] w fun e w' => e = .returned (.bool r) ∧ Below w.heap.size w w' := by
 subst hr
 obtain ⟨z, l⟩ := m
 obtain ⟨vs, rfl, hS⟩ := h
 obtain ⟨a, cap, rfl⟩ := hS.sl
 have HM : Hid (Mach w (.agg #[.int .i64 z, .slice a l.length cap]) (z, l)) := ⟨_, rfl, hS⟩
 have HK : Hid (okM (z, l)) := hok
 have H60 : Hid (l.length ≤ 60) := h60
 clear hS hok
 have hmf : ∀ (fn : Fn) (first cap : Array Value) (w : World), (Instr.makeFunc fn first cap).run Try.prog w = .ok (.func fn first cap) w := fun _ _ _ _ => rfl
 unfold rangeB
 simp only at h60 ⊢
 rw [all_both]
 generalize hr1 : inB z (-1) ((l.length : Int) - 1) = r1
 generalize hr2 : l.all (fun s => finB s.1) = r2
 generalize hr3 : l.all (fun s => s.2.all (arcB l.length)) = r3
 have H1 : Hid (inB z (-1) ((l.length : Int) - 1) = r1) := hr1
 have H2 : Hid (l.all (fun s => finB s.1) = r2) := hr2
 have H3 : Hid (l.all (fun s => s.2.all (arcB l.length)) = r3) := hr3
 clear hr1 hr2 hr3
 generalize hn : l.length = n at *
 have HN : Hid (l.length = n) := hn
 clear hn
 cases r1
 ·go_enter Try.func51, Try.ntmps51
  go_wp2_with (first
    | (go_at_call 75; (with_reducible refine (between_any (-1) ((n : Int) - 1) _).mono ?_); rintro e w1 ⟨p0, p1, rfl, x0, x1, hb⟩; obtain ⟨s1, k1, hb1⟩ := boxed hb (by simp); have c0 := k1.cell 0 (v := .int .i64 z) rfl; have c1 := k1.cell 1 (v := .slice a n cap) rfl; have HB1 : Hid (Below w.heap.size w w1) := hb1; clear k1 hb1 hb)
    | (go_at_call 75; (with_reducible refine (between_any 0 ((n : Int) - 1) _).mono ?_); rintro e w2 ⟨p2, p3, rfl, x2, x3, hb⟩; have y0 := low x0 hb; have y1 := low x1 hb; have d0 := low c0 hb; have d1 := low c1 hb; have HB2 : Hid (Below w.heap.size w w2) := HB1.out.trans (hb.mono HB1.out.size); clear hb)
    | (go_at_call 75; (with_reducible refine (between_any 0 1000 _).mono ?_); rintro e w3 ⟨p4, p5, rfl, x4, x5, hb⟩; have z0 := lowA y0 hb; have z1 := lowA y1 hb; have z2 := lowA x2 hb; have z3 := lowA x3 hb; have e0 := lowA d0 hb; have e1 := lowA d1 hb; have e2 := lowN hb; have HB3 : Hid (Below w.heap.size w w3) := (HB2.out.alloc HB2.out.size _).trans (hb.mono (by have h := HB2.out.size; simp; omega)); clear hb)
    | (go_at_call 75; (with_reducible refine (between_any 0 1000000000 _).mono ?_); rintro e w4 ⟨p6, p7, rfl, x6, x7, hb⟩; have u0 := low z0 hb; have u1 := low z1 hb; have u2 := low z2 hb; have u3 := low z3 hb; have u4 := low x4 hb; have u5 := low x5 hb; have f0 := low e0 hb; have f1 := low e1 hb; have f2 := low e2 hb; have HB4 : Hid (Below w.heap.size w w4) := HB3.out.trans (hb.mono HB3.out.size); have t0 : w.heap.size < w4.heap.size := World.block_lt_of_cell? _ _ f0; have t1 : p0 < w4.heap.size := World.block_lt_of_cell? _ _ u0; have t2 : p1 < w4.heap.size := World.block_lt_of_cell? _ _ u1; have t3 : p2 < w4.heap.size := World.block_lt_of_cell? _ _ u2; have t4 : p3 < w4.heap.size := World.block_lt_of_cell? _ _ u3; have t5 : p4 < w4.heap.size := World.block_lt_of_cell? _ _ u4; have t6 : p5 < w4.heap.size := World.block_lt_of_cell? _ _ u5; have t7 : p6 < w4.heap.size := World.block_lt_of_cell? _ _ x6; have t8 : p7 < w4.heap.size := World.block_lt_of_cell? _ _ x7; have t9 : w2.heap.size < w4.heap.size := World.block_lt_of_cell? _ _ f2; obtain ⟨vb1, vb2, vb3, hbu⟩ := varsB u2 u3 u4 u5 x6 x7 f2; have V1 : Hid (VarB ((w4.alloc (.cells #[(.func (.func 88) #[] #[.pointer (some ⟨p4, 0, none⟩), .pointer (some ⟨p5, 0, none⟩)])] 127)).alloc (.cells #[(.func (.func 88) #[] #[.pointer (some ⟨p6, 0, none⟩), .pointer (some ⟨p7, 0, none⟩)])] 127)) w2.heap.size 0 ((n : Int) - 1)) := vb1; have V2 : Hid (VarB ((w4.alloc (.cells #[(.func (.func 88) #[] #[.pointer (some ⟨p4, 0, none⟩), .pointer (some ⟨p5, 0, none⟩)])] 127)).alloc (.cells #[(.func (.func 88) #[] #[.pointer (some ⟨p6, 0, none⟩), .pointer (some ⟨p7, 0, none⟩)])] 127)) w4.heap.size 0 1000) := vb2; have V3 : Hid (VarB ((w4.alloc (.cells #[(.func (.func 88) #[] #[.pointer (some ⟨p4, 0, none⟩), .pointer (some ⟨p5, 0, none⟩)])] 127)).alloc (.cells #[(.func (.func 88) #[] #[.pointer (some ⟨p6, 0, none⟩), .pointer (some ⟨p7, 0, none⟩)])] 127)) (w4.heap.size + 1) 0 1000000000) := vb3; have HU : Hid (Below w.heap.size w ((w4.alloc (.cells #[(.func (.func 88) #[] #[.pointer (some ⟨p4, 0, none⟩), .pointer (some ⟨p5, 0, none⟩)])] 127)).alloc (.cells #[(.func (.func 88) #[] #[.pointer (some ⟨p6, 0, none⟩), .pointer (some ⟨p7, 0, none⟩)])] 127))) := HB4.out.trans (hbu.mono HB4.out.size); clear vb1 vb2 vb3 hbu hb y0 y1 z0 z1 z2 z3 d0 d1 e0 e1 e2 c0 c1 x0 x1 x2 x3 x4 x5)
    | (go_at_call 88; (with_reducible refine (between1_any _ _ _ _ _ _ (by go_cell) (by go_cell) _ H1.out).mono ?_); rintro e w' ⟨rfl, rfl⟩))
  go_ret
  exact ⟨rfl, by (have h := HB4.out); go_grown⟩
 cases r2
 ·go_enter Try.func51, Try.ntmps51
  go_wp2_with (first
    | (go_at_call 75; (with_reducible refine (between_any (-1) ((n : Int) - 1) _).mono ?_); rintro e w1 ⟨p0, p1, rfl, x0, x1, hb⟩; obtain ⟨s1, k1, hb1⟩ := boxed hb (by simp); have c0 := k1.cell 0 (v := .int .i64 z) rfl; have c1 := k1.cell 1 (v := .slice a n cap) rfl; have HB1 : Hid (Below w.heap.size w w1) := hb1; clear k1 hb1 hb)
    | (go_at_call 75; (with_reducible refine (between_any 0 ((n : Int) - 1) _).mono ?_); rintro e w2 ⟨p2, p3, rfl, x2, x3, hb⟩; have y0 := low x0 hb; have y1 := low x1 hb; have d0 := low c0 hb; have d1 := low c1 hb; have HB2 : Hid (Below w.heap.size w w2) := HB1.out.trans (hb.mono HB1.out.size); clear hb)
    | (go_at_call 75; (with_reducible refine (between_any 0 1000 _).mono ?_); rintro e w3 ⟨p4, p5, rfl, x4, x5, hb⟩; have z0 := lowA y0 hb; have z1 := lowA y1 hb; have z2 := lowA x2 hb; have z3 := lowA x3 hb; have e0 := lowA d0 hb; have e1 := lowA d1 hb; have e2 := lowN hb; have HB3 : Hid (Below w.heap.size w w3) := (HB2.out.alloc HB2.out.size _).trans (hb.mono (by have h := HB2.out.size; simp; omega)); clear hb)
    | (go_at_call 75; (with_reducible refine (between_any 0 1000000000 _).mono ?_); rintro e w4 ⟨p6, p7, rfl, x6, x7, hb⟩; have u0 := low z0 hb; have u1 := low z1 hb; have u2 := low z2 hb; have u3 := low z3 hb; have u4 := low x4 hb; have u5 := low x5 hb; have f0 := low e0 hb; have f1 := low e1 hb; have f2 := low e2 hb; have HB4 : Hid (Below w.heap.size w w4) := HB3.out.trans (hb.mono HB3.out.size); have t0 : w.heap.size < w4.heap.size := World.block_lt_of_cell? _ _ f0; have t1 : p0 < w4.heap.size := World.block_lt_of_cell? _ _ u0; have t2 : p1 < w4.heap.size := World.block_lt_of_cell? _ _ u1; have t3 : p2 < w4.heap.size := World.block_lt_of_cell? _ _ u2; have t4 : p3 < w4.heap.size := World.block_lt_of_cell? _ _ u3; have t5 : p4 < w4.heap.size := World.block_lt_of_cell? _ _ u4; have t6 : p5 < w4.heap.size := World.block_lt_of_cell? _ _ u5; have t7 : p6 < w4.heap.size := World.block_lt_of_cell? _ _ x6; have t8 : p7 < w4.heap.size := World.block_lt_of_cell? _ _ x7; have t9 : w2.heap.size < w4.heap.size := World.block_lt_of_cell? _ _ f2; obtain ⟨vb1, vb2, vb3, hbu⟩ := varsB u2 u3 u4 u5 x6 x7 f2; have V1 : Hid (VarB ((w4.alloc (.cells #[(.func (.func 88) #[] #[.pointer (some ⟨p4, 0, none⟩), .pointer (some ⟨p5, 0, none⟩)])] 127)).alloc (.cells #[(.func (.func 88) #[] #[.pointer (some ⟨p6, 0, none⟩), .pointer (some ⟨p7, 0, none⟩)])] 127)) w2.heap.size 0 ((n : Int) - 1)) := vb1; have V2 : Hid (VarB ((w4.alloc (.cells #[(.func (.func 88) #[] #[.pointer (some ⟨p4, 0, none⟩), .pointer (some ⟨p5, 0, none⟩)])] 127)).alloc (.cells #[(.func (.func 88) #[] #[.pointer (some ⟨p6, 0, none⟩), .pointer (some ⟨p7, 0, none⟩)])] 127)) w4.heap.size 0 1000) := vb2; have V3 : Hid (VarB ((w4.alloc (.cells #[(.func (.func 88) #[] #[.pointer (some ⟨p4, 0, none⟩), .pointer (some ⟨p5, 0, none⟩)])] 127)).alloc (.cells #[(.func (.func 88) #[] #[.pointer (some ⟨p6, 0, none⟩), .pointer (some ⟨p7, 0, none⟩)])] 127)) (w4.heap.size + 1) 0 1000000000) := vb3; have HU : Hid (Below w.heap.size w ((w4.alloc (.cells #[(.func (.func 88) #[] #[.pointer (some ⟨p4, 0, none⟩), .pointer (some ⟨p5, 0, none⟩)])] 127)).alloc (.cells #[(.func (.func 88) #[] #[.pointer (some ⟨p6, 0, none⟩), .pointer (some ⟨p7, 0, none⟩)])] 127))) := HB4.out.trans (hbu.mono HB4.out.size); clear vb1 vb2 vb3 hbu hb y0 y1 z0 z1 z2 z3 d0 d1 e0 e1 e2 c0 c1 x0 x1 x2 x3 x4 x5)
    | (go_at_call 88; (with_reducible refine (between1_any _ _ _ _ _ _ (by go_cell) (by go_cell) _ H1.out).mono ?_); rintro e w' ⟨rfl, rfl⟩)
      | (go_at_call 78; (with_reducible refine (everyState_any _ (z, l) _ (HM.out.later HU.out (Nat.le_refl _)) _ _ _ (mayEnd_ask _ l _ V3.out) (by show l.length ≤ 60; rw [HN.out]; exact H60.out) _ H2.out).mono ?_); rintro e w5 ⟨rfl, hb⟩; have HB5 : Hid (Below w.heap.size w w5) := HU.out.trans (hb.mono HU.out.size); clear hb))
  go_ret
  exact ⟨rfl, HB5.out⟩
 go_enter Try.func51, Try.ntmps51
 go_wp2_with (first
   | (go_at_call 75; (with_reducible refine (between_any (-1) ((n : Int) - 1) _).mono ?_); rintro e w1 ⟨p0, p1, rfl, x0, x1, hb⟩; obtain ⟨s1, k1, hb1⟩ := boxed hb (by simp); have c0 := k1.cell 0 (v := .int .i64 z) rfl; have c1 := k1.cell 1 (v := .slice a n cap) rfl; have HB1 : Hid (Below w.heap.size w w1) := hb1; clear k1 hb1 hb)
   | (go_at_call 75; (with_reducible refine (between_any 0 ((n : Int) - 1) _).mono ?_); rintro e w2 ⟨p2, p3, rfl, x2, x3, hb⟩; have y0 := low x0 hb; have y1 := low x1 hb; have d0 := low c0 hb; have d1 := low c1 hb; have HB2 : Hid (Below w.heap.size w w2) := HB1.out.trans (hb.mono HB1.out.size); clear hb)
   | (go_at_call 75; (with_reducible refine (between_any 0 1000 _).mono ?_); rintro e w3 ⟨p4, p5, rfl, x4, x5, hb⟩; have z0 := lowA y0 hb; have z1 := lowA y1 hb; have z2 := lowA x2 hb; have z3 := lowA x3 hb; have e0 := lowA d0 hb; have e1 := lowA d1 hb; have e2 := lowN hb; have HB3 : Hid (Below w.heap.size w w3) := (HB2.out.alloc HB2.out.size _).trans (hb.mono (by have h := HB2.out.size; simp; omega)); clear hb)
   | (go_at_call 75; (with_reducible refine (between_any 0 1000000000 _).mono ?_); rintro e w4 ⟨p6, p7, rfl, x6, x7, hb⟩; have u0 := low z0 hb; have u1 := low z1 hb; have u2 := low z2 hb; have u3 := low z3 hb; have u4 := low x4 hb; have u5 := low x5 hb; have f0 := low e0 hb; have f1 := low e1 hb; have f2 := low e2 hb; have HB4 : Hid (Below w.heap.size w w4) := HB3.out.trans (hb.mono HB3.out.size); have t0 : w.heap.size < w4.heap.size := World.block_lt_of_cell? _ _ f0; have t1 : p0 < w4.heap.size := World.block_lt_of_cell? _ _ u0; have t2 : p1 < w4.heap.size := World.block_lt_of_cell? _ _ u1; have t3 : p2 < w4.heap.size := World.block_lt_of_cell? _ _ u2; have t4 : p3 < w4.heap.size := World.block_lt_of_cell? _ _ u3; have t5 : p4 < w4.heap.size := World.block_lt_of_cell? _ _ u4; have t6 : p5 < w4.heap.size := World.block_lt_of_cell? _ _ u5; have t7 : p6 < w4.heap.size := World.block_lt_of_cell? _ _ x6; have t8 : p7 < w4.heap.size := World.block_lt_of_cell? _ _ x7; have t9 : w2.heap.size < w4.heap.size := World.block_lt_of_cell? _ _ f2; obtain ⟨vb1, vb2, vb3, hbu⟩ := varsB u2 u3 u4 u5 x6 x7 f2; have V1 : Hid (VarB ((w4.alloc (.cells #[(.func (.func 88) #[] #[.pointer (some ⟨p4, 0, none⟩), .pointer (some ⟨p5, 0, none⟩)])] 127)).alloc (.cells #[(.func (.func 88) #[] #[.pointer (some ⟨p6, 0, none⟩), .pointer (some ⟨p7, 0, none⟩)])] 127)) w2.heap.size 0 ((n : Int) - 1)) := vb1; have V2 : Hid (VarB ((w4.alloc (.cells #[(.func (.func 88) #[] #[.pointer (some ⟨p4, 0, none⟩), .pointer (some ⟨p5, 0, none⟩)])] 127)).alloc (.cells #[(.func (.func 88) #[] #[.pointer (some ⟨p6, 0, none⟩), .pointer (some ⟨p7, 0, none⟩)])] 127)) w4.heap.size 0 1000) := vb2; have V3 : Hid (VarB ((w4.alloc (.cells #[(.func (.func 88) #[] #[.pointer (some ⟨p4, 0, none⟩), .pointer (some ⟨p5, 0, none⟩)])] 127)).alloc (.cells #[(.func (.func 88) #[] #[.pointer (some ⟨p6, 0, none⟩), .pointer (some ⟨p7, 0, none⟩)])] 127)) (w4.heap.size + 1) 0 1000000000) := vb3; have HU : Hid (Below w.heap.size w ((w4.alloc (.cells #[(.func (.func 88) #[] #[.pointer (some ⟨p4, 0, none⟩), .pointer (some ⟨p5, 0, none⟩)])] 127)).alloc (.cells #[(.func (.func 88) #[] #[.pointer (some ⟨p6, 0, none⟩), .pointer (some ⟨p7, 0, none⟩)])] 127))) := HB4.out.trans (hbu.mono HB4.out.size); clear vb1 vb2 vb3 hbu hb y0 y1 z0 z1 z2 z3 d0 d1 e0 e1 e2 c0 c1 x0 x1 x2 x3 x4 x5)
   | (go_at_call 88; (with_reducible refine (between1_any _ _ _ _ _ _ (by go_cell) (by go_cell) _ H1.out).mono ?_); rintro e w' ⟨rfl, rfl⟩)
     | (go_at_call 78; (with_reducible refine (everyState_any _ (z, l) _ (HM.out.later HU.out (Nat.le_refl _)) _ _ _ (mayEnd_ask _ l _ V3.out) (by show l.length ≤ 60; rw [HN.out]; exact H60.out) _ H2.out).mono ?_); rintro e w5 ⟨rfl, hb⟩; have HB5 : Hid (Below w.heap.size w w5) := HU.out.trans (hb.mono HU.out.size); have r0 := low (low (low f0 ((Below.refl _ _).alloc (Nat.le_refl _) (.cells #[(.func (.func 88) #[] #[.pointer (some ⟨p4, 0, none⟩), .pointer (some ⟨p5, 0, none⟩)])] 127))) ((Below.refl _ _).alloc (Nat.le_refl _) _)) hb; have r1 := low (low (low f1 ((Below.refl _ _).alloc (Nat.le_refl _) (.cells #[(.func (.func 88) #[] #[.pointer (some ⟨p4, 0, none⟩), .pointer (some ⟨p5, 0, none⟩)])] 127))) ((Below.refl _ _).alloc (Nat.le_refl _) _)) hb; have W1 : Hid (VarB w5 w2.heap.size 0 ((n : Int) - 1)) := V1.out.later hb (Nat.le_refl _); have W2 : Hid (VarB w5 w4.heap.size 0 1000) := V2.out.later hb (Nat.le_refl _); have W3 : Hid (VarB w5 (w4.heap.size + 1) 0 1000000000) := V3.out.later hb (Nat.le_refl _); clear hb)
   | (go_at_call 79; (with_reducible refine (everyArc_any _ (z, l) _ (HM.out.later HB5.out (Nat.le_refl _)) _ _ _ (mayBe_ask _ _ _ n _ W2.out W3.out W1.out) HK.out (by show l.length ≤ 60; rw [HN.out]; exact H60.out) _ H3.out).mono ?_); rintro e w6 ⟨rfl, hb⟩; have HB6 : Hid (Below w.heap.size w w6) := HB5.out.trans (hb.mono HB5.out.size); clear hb))
 go_ret
 exact ⟨rfl, HB6.out⟩
theorem coreCheck_any (v : Value) (m : Mc) (w : World) (h : Mach w v m) (hok : okM m) (r : Int) (hr : faultM m = r) :
  Calls Try.prog 30 #[v] w fun e w' => e = .returned (.int .i64 r) ∧ Below w.heap.size w w' := by
 subst hr
 obtain ⟨z, l⟩ := m
 obtain ⟨vs, rfl, hS⟩ := h
 obtain ⟨a, cap, rfl⟩ := hS.sl
 have HM : Hid (Mach w (.agg #[.int .i64 z, .slice a l.length cap]) (z, l)) := ⟨_, rfl, hS⟩
 have HK : Hid (okM (z, l)) := hok
 have hnot : ∀ (x : Bool) (w : World), (Op.unary .not (.bool x)).run Try.prog w = .ok (.bool (!x)) w := fun _ _ => rfl
 clear hS hok
 simp only
 by_cases h60 : l.length ≤ 60
 ·have H60 : Hid (l.length ≤ 60) := h60
  by_cases h400 : arcN l ≤ 400
  ·have hsz : sizeB (z, l) = true := by simp [sizeB, h60, h400]
   generalize hr : rangeB (z, l) = r
   have HR : Hid (rangeB (z, l) = r) := hr
   have HF : Hid ((if r = true then (0 : Int) else 2) = faultM (z, l)) := by show _ = _; unfold faultM; rw [if_pos hsz, hr]
   clear hr hsz
   generalize hq : arcN l = q at *
   have HQ : Hid (arcN l = q) := hq
   clear hq
   have h4 : ¬ (400 : Int) < (q : Int) := by omega
   generalize hn : l.length = n at *
   have HN : Hid (l.length = n) := hn
   clear hn
   have h6 : ¬ (60 : Int) < (n : Int) := by omega
   cases r
   all_goals
    go_enter Try.func30, Try.ntmps30
    go_wp2_with (first
     | (go_at_call 50; (with_reducible refine (arcsOf_any _ (z, l) _ (HM.out.later (B := w.heap.size) (by go_grown) (Nat.le_refl _)) HK.out (by show l.length ≤ 60; rw [HN.out]; exact H60.out) q HQ.out).mono ?_); rintro e w1 ⟨rfl, hb⟩; obtain ⟨s1, b1, hb1⟩ := boxed hb (by simp); have c0 := b1.cell 0 (v := .int .i64 z) rfl; have c1 := b1.cell 1 (v := .slice a n cap) rfl; have HB : Hid (Below w.heap.size w w1) := hb1; clear b1 hb1 hb)
     | (go_at_call 51; (with_reducible refine (isInRange_any _ (z, l) _ (HM.out.later HB.out (Nat.le_refl _)) HK.out (by show l.length ≤ 60; rw [HN.out]; exact H60.out) _ HR.out).mono ?_); rintro e w2 ⟨rfl, hb⟩; have HB2 : Hid (Below w.heap.size w w2) := HB.out.trans (hb.mono HB.out.size); clear hb))
    go_ret
    exact ⟨ret_intK HF.out, HB2.out⟩
  ·have HF : Hid (faultM (z, l) = 1) := faultM_size (by simp [sizeB]; omega)
   generalize hq : arcN l = q at *
   have HQ : Hid (arcN l = q) := hq
   clear hq
   have h4 : (400 : Int) < (q : Int) := by omega
   generalize hn : l.length = n at *
   have HN : Hid (l.length = n) := hn
   clear hn
   have h6 : ¬ (60 : Int) < (n : Int) := by omega
   go_enter Try.func30, Try.ntmps30
   go_wp2_with (first
     | (go_at_call 50; (with_reducible refine (arcsOf_any _ (z, l) _ (HM.out.later (B := w.heap.size) (by go_grown) (Nat.le_refl _)) HK.out (by show l.length ≤ 60; rw [HN.out]; exact H60.out) q HQ.out).mono ?_); rintro e w1 ⟨rfl, hb⟩; obtain ⟨s1, b1, hb1⟩ := boxed hb (by simp); have HB : Hid (Below w.heap.size w w1) := hb1; clear b1 hb1 hb))
   go_ret
   exact ⟨ret_intK HF.out.symm, HB.out⟩
 ·have HF : Hid (faultM (z, l) = 1) := faultM_size (by simp [sizeB]; omega)
  have h6 : (60 : Int) < (l.length : Int) := by omega
  go_enter Try.func30, Try.ntmps30
  go_wp2
  go_ret
  exact ⟨ret_intK HF.out.symm, by go_grown⟩
end Go.Proofs.Ytfpibdaedfilaaa.Wt
