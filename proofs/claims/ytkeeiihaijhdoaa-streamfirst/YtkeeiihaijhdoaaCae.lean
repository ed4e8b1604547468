/- What core.Check answers. -/
import Derived.Test.YtkeeiihaijhdoaaCac
import Derived.Test.YtkeeiihaijhdoaaCad
import Derived.Laws.EntriesVeiled
namespace Go.Proofs.Ytkeeiihaijhdoaa.Wt
open Go.ChangeShapes Go.WideShapes Go.ChangeAt Go.RowKit
open Go.Proofs.Ytkeeiihaijhdoaa.Pl
set_option linter.unusedVariables false
theorem between_any (lo hi : Int) (w : World) :
  Calls Try.prog 65 #[.int .i64 lo, .int .i64 hi] w fun e w' => ∃ b0 b1, e = .returned (.func (.func 75) #[] #[.pointer (some ⟨b0, 0, none⟩), .pointer (some ⟨b1, 0, none⟩)]) ∧ w'.cell? ⟨b0, 0, none⟩ = some (.int .i64 lo) ∧ w'.cell? ⟨b1, 0, none⟩ = some (.int .i64 hi) ∧ Below w.heap.size w w' := by
 have hmf : ∀ (fn : Fn) (first cap : Array Value) (w : World), (Instr.makeFunc fn first cap).run Try.prog w = .ok (.func fn first cap) w := fun _ _ _ _ => rfl
 go_enter Try.func65, Try.ntmps65
 go_wp2
 go_ret
 exact ⟨_, _, rfl, by go_cell, by go_cell, by go_grown⟩
theorem varsB {w4 : World} {p2 p3 p4 p5 p6 p7 c : Nat} {n : Int} (u2 : w4.cell? ⟨p2, 0, none⟩ = some (.int .i64 0)) (u3 : w4.cell? ⟨p3, 0, none⟩ = some (.int .i64 n)) (u4 : w4.cell? ⟨p4, 0, none⟩ = some (.int .i64 0)) (u5 : w4.cell? ⟨p5, 0, none⟩ = some (.int .i64 1000)) (u6 : w4.cell? ⟨p6, 0, none⟩ = some (.int .i64 0)) (u7 : w4.cell? ⟨p7, 0, none⟩ = some (.int .i64 1000000000))
  (hc : w4.cell? ⟨c, 0, none⟩ = some (.func (.func 75) #[] #[.pointer (some ⟨p2, 0, none⟩), .pointer (some ⟨p3, 0, none⟩)])) :
  VarB ((w4.alloc (.cells #[(.func (.func 75) #[] #[.pointer (some ⟨p4, 0, none⟩), .pointer (some ⟨p5, 0, none⟩)])] 90)).alloc (.cells #[(.func (.func 75) #[] #[.pointer (some ⟨p6, 0, none⟩), .pointer (some ⟨p7, 0, none⟩)])] 90)) c 0 n ∧ VarB ((w4.alloc (.cells #[(.func (.func 75) #[] #[.pointer (some ⟨p4, 0, none⟩), .pointer (some ⟨p5, 0, none⟩)])] 90)).alloc (.cells #[(.func (.func 75) #[] #[.pointer (some ⟨p6, 0, none⟩), .pointer (some ⟨p7, 0, none⟩)])] 90)) w4.heap.size 0 1000 ∧ VarB ((w4.alloc (.cells #[(.func (.func 75) #[] #[.pointer (some ⟨p4, 0, none⟩), .pointer (some ⟨p5, 0, none⟩)])] 90)).alloc (.cells #[(.func (.func 75) #[] #[.pointer (some ⟨p6, 0, none⟩), .pointer (some ⟨p7, 0, none⟩)])] 90)) (w4.heap.size + 1) 0 1000000000 ∧ Below w4.heap.size w4 ((w4.alloc (.cells #[(.func (.func 75) #[] #[.pointer (some ⟨p4, 0, none⟩), .pointer (some ⟨p5, 0, none⟩)])] 90)).alloc (.cells #[(.func (.func 75) #[] #[.pointer (some ⟨p6, 0, none⟩), .pointer (some ⟨p7, 0, none⟩)])] 90)) := by
 have hb : Below w4.heap.size w4 ((w4.alloc (.cells #[(.func (.func 75) #[] #[.pointer (some ⟨p4, 0, none⟩), .pointer (some ⟨p5, 0, none⟩)])] 90)).alloc (.cells #[(.func (.func 75) #[] #[.pointer (some ⟨p6, 0, none⟩), .pointer (some ⟨p7, 0, none⟩)])] 90)) := ((Below.refl _ _).alloc (Nat.le_refl _) _).alloc (by simp) _
 have h1 := Blk.made (w4.alloc (.cells #[(.func (.func 75) #[] #[.pointer (some ⟨p4, 0, none⟩), .pointer (some ⟨p5, 0, none⟩)])] 90)) #[(.func (.func 75) #[] #[.pointer (some ⟨p6, 0, none⟩), .pointer (some ⟨p7, 0, none⟩)])] 90
 simp only [World.size_alloc] at h1
 exact ⟨⟨_, low hc hb, _, _, rfl, low u2 hb, low u3 hb⟩, ⟨_, ((Blk.made w4 #[(.func (.func 75) #[] #[.pointer (some ⟨p4, 0, none⟩), .pointer (some ⟨p5, 0, none⟩)])] 90).alloc _).cell 0 rfl, _, _, rfl, low u4 hb, low u5 hb⟩, ⟨_, h1.cell 0 rfl, _, _, rfl, low u6 hb, low u7 hb⟩, hb⟩
set_option maxRecDepth 100000 in
set_option maxHeartbeats 2000000 in
theorem isInRange_any (v : Value) (m : Mc) (w : World) (h : Mach w v m) (hok : okM m) (h60 : m.2.length ≤ 60) (r : Bool) (hr : rangeB m = r) :
  Calls Try.prog 50 #[v] w fun e w' => e = .returned (.bool r) ∧ Below w.heap.size w w' := by
 subst hr
 obtain ⟨z, l⟩ := m
 obtain ⟨vs, rfl, hS⟩ := h
 obtain ⟨a, cap, rfl⟩ := hS.sl
 have HM : Hid (Mach w (.agg #[.int .i64 z, .slice a l.length cap]) (z, l)) := ⟨_, rfl, hS⟩
 have HK : Hid (okM (z, l)) := hok
 have H60 : Hid (l.length ≤ 60) := h60
 clear hS hok
 have hmf : ∀ (fn : Fn) (first cap : Array Value) (w : World), (Instr.makeFunc fn first cap).run Try.prog w = .ok (.func fn first cap) w := fun _ _ _ _ => rfl
 unfold rangeB
 simp only at h60 ⊢
 rw [all_both]
 generalize hr1 : inB z (-1) ((l.length : Int) - 1) = r1
 generalize hr2 : l.all (fun s => finB s.1) = r2
 generalize hr3 : l.all (fun s => s.2.all (arcB l.length)) = r3
 have H1 : Hid (inB z (-1) ((l.length : Int) - 1) = r1) := hr1
 have H2 : Hid (l.all (fun s => finB s.1) = r2) := hr2
 have H3 : Hid (l.all (fun s => s.2.all (arcB l.length)) = r3) := hr3
 clear hr1 hr2 hr3
 generalize hn : l.length = n at *
 have HN : Hid (l.length = n) := hn
 clear hn
 cases r1
 ·go_enter Try.func50, Try.ntmps50
  go_wp2_with (first
    | (go_at_call 65; (with_reducible refine (between_any (-1) ((n : Int) - 1) _).mono ?_); rintro e w1 ⟨p0, p1, rfl, x0, x1, hb⟩; obtain ⟨s1, k1, hb1⟩ := boxed hb (by simp); have c0 := k1.cell 0 (v := .int .i64 z) rfl; have c1 := k1.cell 1 (v := .slice a n cap) rfl; have HB1 : Hid (Below w.heap.size w w1) := hb1; clear k1 hb1 hb)
    | (go_at_call 65; (with_reducible refine (between_any 0 ((n : Int) - 1) _).mono ?_); rintro e w2 ⟨p2, p3, rfl, x2, x3, hb⟩; have y0 := low x0 hb; have y1 := low x1 hb; have d0 := low c0 hb; have d1 := low c1 hb; have HB2 : Hid (Below w.heap.size w w2) := HB1.out.trans (hb.mono HB1.out.size); clear hb)
    | (go_at_call 65; (with_reducible refine (between_any 0 1000 _).mono ?_); rintro e w3 ⟨p4, p5, rfl, x4, x5, hb⟩; have z0 := lowA y0 hb; have z1 := lowA y1 hb; have z2 := lowA x2 hb; have z3 := lowA x3 hb; have e0 := lowA d0 hb; have e1 := lowA d1 hb; have e2 := lowN hb; have HB3 : Hid (Below w.heap.size w w3) := (HB2.out.alloc HB2.out.size _).trans (hb.mono (by have h := HB2.out.size; simp; omega)); clear hb)
    | (go_at_call 65; (with_reducible refine (between_any 0 1000000000 _).mono ?_); rintro e w4 ⟨p6, p7, rfl, x6, x7, hb⟩; have u0 := low z0 hb; have u1 := low z1 hb; have u2 := low z2 hb; have u3 := low z3 hb; have u4 := low x4 hb; have u5 := low x5 hb; have f0 := low e0 hb; have f1 := low e1 hb; have f2 := low e2 hb; have HB4 : Hid (Below w.heap.size w w4) := HB3.out.trans (hb.mono HB3.out.size); have t0 : w.heap.size < w4.heap.size := World.block_lt_of_cell? _ _ f0; have t1 : p0 < w4.heap.size := World.block_lt_of_cell? _ _ u0; have t2 : p1 < w4.heap.size := World.block_lt_of_cell? _ _ u1; have t3 : p2 < w4.heap.size := World.block_lt_of_cell? _ _ u2; have t4 : p3 < w4.heap.size := World.block_lt_of_cell? _ _ u3; have t5 : p4 < w4.heap.size := World.block_lt_of_cell? _ _ u4; have t6 : p5 < w4.heap.size := World.block_lt_of_cell? _ _ u5; have t7 : p6 < w4.heap.size := World.block_lt_of_cell? _ _ x6; have t8 : p7 < w4.heap.size := World.block_lt_of_cell? _ _ x7; have t9 : w2.heap.size < w4.heap.size := World.block_lt_of_cell? _ _ f2; obtain ⟨vb1, vb2, vb3, hbu⟩ := varsB u2 u3 u4 u5 x6 x7 f2; have V1 : Hid (VarB ((w4.alloc (.cells #[(.func (.func 75) #[] #[.pointer (some ⟨p4, 0, none⟩), .pointer (some ⟨p5, 0, none⟩)])] 90)).alloc (.cells #[(.func (.func 75) #[] #[.pointer (some ⟨p6, 0, none⟩), .pointer (some ⟨p7, 0, none⟩)])] 90)) w2.heap.size 0 ((n : Int) - 1)) := vb1; have V2 : Hid (VarB ((w4.alloc (.cells #[(.func (.func 75) #[] #[.pointer (some ⟨p4, 0, none⟩), .pointer (some ⟨p5, 0, none⟩)])] 90)).alloc (.cells #[(.func (.func 75) #[] #[.pointer (some ⟨p6, 0, none⟩), .pointer (some ⟨p7, 0, none⟩)])] 90)) w4.heap.size 0 1000) := vb2; have V3 : Hid (VarB ((w4.alloc (.cells #[(.func (.func 75) #[] #[.pointer (some ⟨p4, 0, none⟩), .pointer (some ⟨p5, 0, none⟩)])] 90)).alloc (.cells #[(.func (.func 75) #[] #[.pointer (some ⟨p6, 0, none⟩), .pointer (some ⟨p7, 0, none⟩)])] 90)) (w4.heap.size + 1) 0 1000000000) := vb3; have HU : Hid (Below w.heap.size w ((w4.alloc (.cells #[(.func (.func 75) #[] #[.pointer (some ⟨p4, 0, none⟩), .pointer (some ⟨p5, 0, none⟩)])] 90)).alloc (.cells #[(.func (.func 75) #[] #[.pointer (some ⟨p6, 0, none⟩), .pointer (some ⟨p7, 0, none⟩)])] 90))) := HB4.out.trans (hbu.mono HB4.out.size); clear vb1 vb2 vb3 hbu hb y0 y1 z0 z1 z2 z3 d0 d1 e0 e1 e2 c0 c1 x0 x1 x2 x3 x4 x5)
    | (go_at_call 75; (with_reducible refine (between1_any _ _ _ _ _ _ (by go_cell) (by go_cell) _ H1.out).mono ?_); rintro e w' ⟨rfl, rfl⟩))
  go_ret
  exact ⟨rfl, by (have h := HB4.out); go_grown⟩
 cases r2
 ·go_enter Try.func50, Try.ntmps50
  go_wp2_with (first
    | (go_at_call 65; (with_reducible refine (between_any (-1) ((n : Int) - 1) _).mono ?_); rintro e w1 ⟨p0, p1, rfl, x0, x1, hb⟩; obtain ⟨s1, k1, hb1⟩ := boxed hb (by simp); have c0 := k1.cell 0 (v := .int .i64 z) rfl; have c1 := k1.cell 1 (v := .slice a n cap) rfl; have HB1 : Hid (Below w.heap.size w w1) := hb1; clear k1 hb1 hb)
    | (go_at_call 65; (with_reducible refine (between_any 0 ((n : Int) - 1) _).mono ?_); rintro e w2 ⟨p2, p3, rfl, x2, x3, hb⟩; have y0 := low x0 hb; have y1 := low x1 hb; have d0 := low c0 hb; have d1 := low c1 hb; have HB2 : Hid (Below w.heap.size w w2) := HB1.out.trans (hb.mono HB1.out.size); clear hb)
    | (go_at_call 65; (with_reducible refine (between_any 0 1000 _).mono ?_); rintro e w3 ⟨p4, p5, rfl, x4, x5, hb⟩; have z0 := lowA y0 hb; have z1 := lowA y1 hb; have z2 := lowA x2 hb; have z3 := lowA x3 hb; have e0 := lowA d0 hb; have e1 := lowA d1 hb; have e2 := lowN hb; have HB3 : Hid (Below w.heap.size w w3) := (HB2.out.alloc HB2.out.size _).trans (hb.mono (by have h := HB2.out.size; simp; omega)); clear hb)
    | (go_at_call 65; (with_reducible refine (between_any 0 1000000000 _).mono ?_); rintro e w4 ⟨p6, p7, rfl, x6, x7, hb⟩; have u0 := low z0 hb; have u1 := low z1 hb; have u2 := low z2 hb; have u3 := low z3 hb; have u4 := low x4 hb; have u5 := low x5 hb; have f0 := low e0 hb; have f1 := low e1 hb; have f2 := low e2 hb; have HB4 : Hid (Below w.heap.size w w4) := HB3.out.trans (hb.mono HB3.out.size); have t0 : w.heap.size < w4.heap.size := World.block_lt_of_cell? _ _ f0; have t1 : p0 < w4.heap.size := World.block_lt_of_cell? _ _ u0; have t2 : p1 < w4.heap.size := World.block_lt_of_cell? _ _ u1; have t3 : p2 < w4.heap.size := World.block_lt_of_cell? _ _ u2; have t4 : p3 < w4.heap.size := World.block_lt_of_cell? _ _ u3; have t5 : p4 < w4.heap.size := World.block_lt_of_cell? _ _ u4; have t6 : p5 < w4.heap.size := World.block_lt_of_cell? _ _ u5; have t7 : p6 < w4.heap.size := World.block_lt_of_cell? _ _ x6; have t8 : p7 < w4.heap.size := World.block_lt_of_cell? _ _ x7; have t9 : w2.heap.size < w4.heap.size := World.block_lt_of_cell? _ _ f2; obtain ⟨vb1, vb2, vb3, hbu⟩ := varsB u2 u3 u4 u5 x6 x7 f2; have V1 : Hid (VarB ((w4.alloc (.cells #[(.func (.func 75) #[] #[.pointer (some ⟨p4, 0, none⟩), .pointer (some ⟨p5, 0, none⟩)])] 90)).alloc (.cells #[(.func (.func 75) #[] #[.pointer (some ⟨p6, 0, none⟩), .pointer (some ⟨p7, 0, none⟩)])] 90)) w2.heap.size 0 ((n : Int) - 1)) := vb1; have V2 : Hid (VarB ((w4.alloc (.cells #[(.func (.func 75) #[] #[.pointer (some ⟨p4, 0, none⟩), .pointer (some ⟨p5, 0, none⟩)])] 90)).alloc (.cells #[(.func (.func 75) #[] #[.pointer (some ⟨p6, 0, none⟩), .pointer (some ⟨p7, 0, none⟩)])] 90)) w4.heap.size 0 1000) := vb2; have V3 : Hid (VarB ((w4.alloc (.cells #[(.func (.func 75) #[] #[.pointer (some ⟨p4, 0, none⟩), .pointer (some ⟨p5, 0, none⟩)])] 90)).alloc (.cells #[(.func (.func 75) #[] #[.pointer (some ⟨p6, 0, none⟩), .pointer (some ⟨p7, 0, none⟩)])] 90)) (w4.heap.size + 1) 0 1000000000) := vb3; have HU : Hid (Below w.heap.size w ((w4.alloc (.cells #[(.func (.func 75) #[] #[.pointer (some ⟨p4, 0, none⟩), .pointer (some ⟨p5, 0, none⟩)])] 90)).alloc (.cells #[(.func (.func 75) #[] #[.pointer (some ⟨p6, 0, none⟩), .pointer (some ⟨p7, 0, none⟩)])] 90))) := HB4.out.trans (hbu.mono HB4.out.size); clear vb1 vb2 vb3 hbu hb y0 y1 z0 z1 z2 z3 d0 d1 e0 e1 e2 c0 c1 x0 x1 x2 x3 x4 x5)
    | (go_at_call 75; (with_reducible refine (between1_any _ _ _ _ _ _ (by go_cell) (by go_cell) _ H1.out).mono ?_); rintro e w' ⟨rfl, rfl⟩)
      | (go_at_call 68; (with_reducible refine (everyState_any _ (z, l) _ (HM.out.later HU.out (Nat.le_refl _)) _ _ _ (mayEnd_ask _ l _ V3.out) (by show l.length ≤ 60; rw [HN.out]; exact H60.out) _ H2.out).mono ?_); rintro e w5 ⟨rfl, hb⟩; have HB5 : Hid (Below w.heap.size w w5) := HU.out.trans (hb.mono HU.out.size); clear hb))
  go_ret
  exact ⟨rfl, HB5.out⟩
 go_enter Try.func50, Try.ntmps50
 go_wp2_with (first
   | (go_at_call 65; (with_reducible refine (between_any (-1) ((n : Int) - 1) _).mono ?_); rintro e w1 ⟨p0, p1, rfl, x0, x1, hb⟩; obtain ⟨s1, k1, hb1⟩ := boxed hb (by simp); have c0 := k1.cell 0 (v := .int .i64 z) rfl; have c1 := k1.cell 1 (v := .slice a n cap) rfl; have HB1 : Hid (Below w.heap.size w w1) := hb1; clear k1 hb1 hb)
   | (go_at_call 65; (with_reducible refine (between_any 0 ((n : Int) - 1) _).mono ?_); rintro e w2 ⟨p2, p3, rfl, x2, x3, hb⟩; have y0 := low x0 hb; have y1 := low x1 hb; have d0 := low c0 hb; have d1 := low c1 hb; have HB2 : Hid (Below w.heap.size w w2) := HB1.out.trans (hb.mono HB1.out.size); clear hb)
   | (go_at_call 65; (with_reducible refine (between_any 0 1000 _).mono ?_); rintro e w3 ⟨p4, p5, rfl, x4, x5, hb⟩; have z0 := lowA y0 hb; have z1 := lowA y1 hb; have z2 := lowA x2 hb; have z3 := lowA x3 hb; have e0 := lowA d0 hb; have e1 := lowA d1 hb; have e2 := lowN hb; have HB3 : Hid (Below w.heap.size w w3) := (HB2.out.alloc HB2.out.size _).trans (hb.mono (by have h := HB2.out.size; simp; omega)); clear hb)
   | (go_at_call 65; (with_reducible refine (between_any 0 1000000000 _).mono ?_); rintro e w4 ⟨p6, p7, rfl, x6, x7, hb⟩; have u0 := low z0 hb; have u1 := low z1 hb; have u2 := low z2 hb; have u3 := low z3 hb; have u4 := low x4 hb; have u5 := low x5 hb; have f0 := low e0 hb; have f1 := low e1 hb; have f2 := low e2 hb; have HB4 : Hid (Below w.heap.size w w4) := HB3.out.trans (hb.mono HB3.out.size); have t0 : w.heap.size < w4.heap.size := World.block_lt_of_cell? _ _ f0; have t1 : p0 < w4.heap.size := World.block_lt_of_cell? _ _ u0; have t2 : p1 < w4.heap.size := World.block_lt_of_cell? _ _ u1; have t3 : p2 < w4.heap.size := World.block_lt_of_cell? _ _ u2; have t4 : p3 < w4.heap.size := World.block_lt_of_cell? _ _ u3; have t5 : p4 < w4.heap.size := World.block_lt_of_cell? _ _ u4; have t6 : p5 < w4.heap.size := World.block_lt_of_cell? _ _ u5; have t7 : p6 < w4.heap.size := World.block_lt_of_cell? _ _ x6; have t8 : p7 < w4.heap.size := World.block_lt_of_cell? _ _ x7; have t9 : w2.heap.size < w4.heap.size := World.block_lt_of_cell? _ _ f2; obtain ⟨vb1, vb2, vb3, hbu⟩ := varsB u2 u3 u4 u5 x6 x7 f2; have V1 : Hid (VarB ((w4.alloc (.cells #[(.func (.func 75) #[] #[.pointer (some ⟨p4, 0, none⟩), .pointer (some ⟨p5, 0, none⟩)])] 90)).alloc (.cells #[(.func (.func 75) #[] #[.pointer (some ⟨p6, 0, none⟩), .pointer (some ⟨p7, 0, none⟩)])] 90)) w2.heap.size 0 ((n : Int) - 1)) := vb1; have V2 : Hid (VarB ((w4.alloc (.cells #[(.func (.func 75) #[] #[.pointer (some ⟨p4, 0, none⟩), .pointer (some ⟨p5, 0, none⟩)])] 90)).alloc (.cells #[(.func (.func 75) #[] #[.pointer (some ⟨p6, 0, none⟩), .pointer (some ⟨p7, 0, none⟩)])] 90)) w4.heap.size 0 1000) := vb2; have V3 : Hid (VarB ((w4.alloc (.cells #[(.func (.func 75) #[] #[.pointer (some ⟨p4, 0, none⟩), .pointer (some ⟨p5, 0, none⟩)])] 90)).alloc (.cells #[(.func (.func 75) #[] #[.pointer (some ⟨p6, 0, none⟩), .pointer (some ⟨p7, 0, none⟩)])] 90)) (w4.heap.size + 1) 0 1000000000) := vb3; have HU : Hid (Below w.heap.size w ((w4.alloc (.cells #[(.func (.func 75) #[] #[.pointer (some ⟨p4, 0, none⟩), .pointer (some ⟨p5, 0, none⟩)])] 90)).alloc (.cells #[(.func (.func 75) #[] #[.pointer (some ⟨p6, 0, none⟩), .pointer (some ⟨p7, 0, none⟩)])] 90))) := HB4.out.trans (hbu.mono HB4.out.size); clear vb1 vb2 vb3 hbu hb y0 y1 z0 z1 z2 z3 d0 d1 e0 e1 e2 c0 c1 x0 x1 x2 x3 x4 x5)
   | (go_at_call 75; (with_reducible refine (between1_any _ _ _ _ _ _ (by go_cell) (by go_cell) _ H1.out).mono ?_); rintro e w' ⟨rfl, rfl⟩)
     | (go_at_call 68; (with_reducible refine (everyState_any _ (z, l) _ (HM.out.later HU.out (Nat.le_refl _)) _ _ _ (mayEnd_ask _ l _ V3.out) (by show l.length ≤ 60; rw [HN.out]; exact H60.out) _ H2.out).mono ?_); rintro e w5 ⟨rfl, hb⟩; have HB5 : Hid (Below w.heap.size w w5) := HU.out.trans (hb.mono HU.out.size); have r0 := low (low (low f0 ((Below.refl _ _).alloc (Nat.le_refl _) (.cells #[(.func (.func 75) #[] #[.pointer (some ⟨p4, 0, none⟩), .pointer (some ⟨p5, 0, none⟩)])] 90))) ((Below.refl _ _).alloc (Nat.le_refl _) _)) hb; have r1 := low (low (low f1 ((Below.refl _ _).alloc (Nat.le_refl _) (.cells #[(.func (.func 75) #[] #[.pointer (some ⟨p4, 0, none⟩), .pointer (some ⟨p5, 0, none⟩)])] 90))) ((Below.refl _ _).alloc (Nat.le_refl _) _)) hb; have W1 : Hid (VarB w5 w2.heap.size 0 ((n : Int) - 1)) := V1.out.later hb (Nat.le_refl _); have W2 : Hid (VarB w5 w4.heap.size 0 1000) := V2.out.later hb (Nat.le_refl _); have W3 : Hid (VarB w5 (w4.heap.size + 1) 0 1000000000) := V3.out.later hb (Nat.le_refl _); clear hb)
   | (go_at_call 69; (with_reducible refine (everyArc_any _ (z, l) _ (HM.out.later HB5.out (Nat.le_refl _)) _ _ _ (mayBe_ask _ _ _ n _ W2.out W3.out W1.out) HK.out (by show l.length ≤ 60; rw [HN.out]; exact H60.out) _ H3.out).mono ?_); rintro e w6 ⟨rfl, hb⟩; have HB6 : Hid (Below w.heap.size w w6) := HB5.out.trans (hb.mono HB5.out.size); clear hb))
 go_ret
 exact ⟨rfl, HB6.out⟩
theorem coreCheck_any (v : Value) (m : Mc) (w : World) (h : Mach w v m) (hok : okM m) (r : Int) (hr : faultM m = r) :
  Calls Try.prog 27 #[v] w fun e w' => e = .returned (.int .i64 r) ∧ Below w.heap.size w w' := by
 subst hr
 obtain ⟨z, l⟩ := m
 obtain ⟨vs, rfl, hS⟩ := h
 obtain ⟨a, cap, rfl⟩ := hS.sl
 have HM : Hid (Mach w (.agg #[.int .i64 z, .slice a l.length cap]) (z, l)) := ⟨_, rfl, hS⟩
 have HK : Hid (okM (z, l)) := hok
 have hnot : ∀ (x : Bool) (w : World), (Op.unary .not (.bool x)).run Try.prog w = .ok (.bool (!x)) w := fun _ _ => rfl
 clear hS hok
 simp only
 by_cases h60 : l.length ≤ 60
 ·have H60 : Hid (l.length ≤ 60) := h60
  by_cases h400 : arcN l ≤ 400
  ·have hsz : sizeB (z, l) = true := by simp [sizeB, h60, h400]
   generalize hr : rangeB (z, l) = r
   have HR : Hid (rangeB (z, l) = r) := hr
   have HF : Hid ((if r = true then (0 : Int) else 2) = faultM (z, l)) := by show _ = _; unfold faultM; rw [if_pos hsz, hr]
   clear hr hsz
   generalize hq : arcN l = q at *
   have HQ : Hid (arcN l = q) := hq
   clear hq
   have h4 : ¬ (400 : Int) < (q : Int) := by omega
   generalize hn : l.length = n at *
   have HN : Hid (l.length = n) := hn
   clear hn
   have h6 : ¬ (60 : Int) < (n : Int) := by omega
   cases r
   all_goals
    go_enter Try.func27, Try.ntmps27
    go_wp2_with (first
     | (go_at_call 49; (with_reducible refine (arcsOf_any _ (z, l) _ (HM.out.later (B := w.heap.size) (by go_grown) (Nat.le_refl _)) HK.out (by show l.length ≤ 60; rw [HN.out]; exact H60.out) q HQ.out).mono ?_); rintro e w1 ⟨rfl, hb⟩; obtain ⟨s1, b1, hb1⟩ := boxed hb (by simp); have c0 := b1.cell 0 (v := .int .i64 z) rfl; have c1 := b1.cell 1 (v := .slice a n cap) rfl; have HB : Hid (Below w.heap.size w w1) := hb1; clear b1 hb1 hb)
     | (go_at_call 50; (with_reducible refine (isInRange_any _ (z, l) _ (HM.out.later HB.out (Nat.le_refl _)) HK.out (by show l.length ≤ 60; rw [HN.out]; exact H60.out) _ HR.out).mono ?_); rintro e w2 ⟨rfl, hb⟩; have HB2 : Hid (Below w.heap.size w w2) := HB.out.trans (hb.mono HB.out.size); clear hb))
    go_ret
    exact ⟨ret_intK HF.out, HB2.out⟩
  ·have HF : Hid (faultM (z, l) = 1) := faultM_size (by simp [sizeB]; omega)
   generalize hq : arcN l = q at *
   have HQ : Hid (arcN l = q) := hq
   clear hq
   have h4 : (400 : Int) < (q : Int) := by omega
   generalize hn : l.length = n at *
   have HN : Hid (l.length = n) := hn
   clear hn
   have h6 : ¬ (60 : Int) < (n : Int) := by omega
   go_enter Try.func27, Try.ntmps27
   go_wp2_with (first
     | (go_at_call 49; (with_reducible refine (arcsOf_any _ (z, l) _ (HM.out.later (B := w.heap.size) (by go_grown) (Nat.le_refl _)) HK.out (by show l.length ≤ 60; rw [HN.out]; exact H60.out) q HQ.out).mono ?_); rintro e w1 ⟨rfl, hb⟩; obtain ⟨s1, b1, hb1⟩ := boxed hb (by simp); have HB : Hid (Below w.heap.size w w1) := hb1; clear b1 hb1 hb))
   go_ret
   exact ⟨ret_intK HF.out.symm, HB.out⟩
 ·have HF : Hid (faultM (z, l) = 1) := faultM_size (by simp [sizeB]; omega)
  have h6 : (60 : Int) < (l.length : Int) := by omega
  go_enter Try.func27, Try.ntmps27
  go_wp2
  go_ret
  exact ⟨ret_intK HF.out.symm, by go_grown⟩
end Go.Proofs.Ytkeeiihaijhdoaa.Wt
