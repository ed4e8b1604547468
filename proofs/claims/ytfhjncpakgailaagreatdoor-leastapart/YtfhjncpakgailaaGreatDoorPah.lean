/- What core.Check answers. -/
import Derived.Test.YtfhjncpakgailaaGreatDoorPag
import Derived.Laws.EntriesVeiled
import Derived.Test.YtfhjncpakgailaaGreatDoorPad
import Derived.WalkKit
import Derived.ProofKit
import Derived.OpenShut
import Derived.Below
import Derived.SizedLaws
import Derived.Laws.AppendOwnNone
import Derived.BigQuiet
import Derived.Deep.QuietTactic
namespace Go.Proofs.YtfhjncpakgailaaGreatDoor.Wt
open Go.ChangeShapes Go.WideShapes Go.ChangeAt Go.RowKit
open Go.Proofs.YtfhjncpakgailaaGreatDoor.Pl
set_option linter.unusedVariables false
theorem between_any (lo hi : Int) (w : World) :
  Calls Tryz.prog 105 #[.int .i64 lo, .int .i64 hi] w fun e w' => ∃ b0 b1, e = .returned (.func (.func 141) #[] #[.pointer (some ⟨b0, 0, none⟩), .pointer (some ⟨b1, 0, none⟩)]) ∧ w'.cell? ⟨b0, 0, none⟩ = some (.int .i64 lo) ∧ w'.cell? ⟨b1, 0, none⟩ = some (.int .i64 hi) ∧ Below w.heap.size w w' := by
 have hmf : ∀ (fn : Fn) (first cap : Array Value) (w : World), (Instr.makeFunc fn first cap).run Tryz.prog w = .ok (.func fn first cap) w := fun _ _ _ _ => rfl
 go_enter Tryz.func105, Tryz.ntmps105
 go_wp2
 go_ret
 exact ⟨_, _, rfl, by go_cell, by go_cell, by go_grown⟩
theorem varsB {w4 : World} {p2 p3 p4 p5 p6 p7 c : Nat} {n : Int} (u2 : w4.cell? ⟨p2, 0, none⟩ = some (.int .i64 0)) (u3 : w4.cell? ⟨p3, 0, none⟩ = some (.int .i64 n)) (u4 : w4.cell? ⟨p4, 0, none⟩ = some (.int .i64 0)) (u5 : w4.cell? ⟨p5, 0, none⟩ = some (.int .i64 1000)) (u6 : w4.cell? ⟨p6, 0, none⟩ = some (.int .i64 0)) (u7 : w4.cell? ⟨p7, 0, none⟩ = some (.int .i64 1000000000))
  (hc : w4.cell? ⟨c, 0, none⟩ = some (.func (.func 141) #[] #[.pointer (some ⟨p2, 0, none⟩), .pointer (some ⟨p3, 0, none⟩)])) :
  VarB ((w4.alloc (.cells #[(.func (.func 141) #[] #[.pointer (some ⟨p4, 0, none⟩), .pointer (some ⟨p5, 0, none⟩)])] 131)).alloc (.cells #[(.func (.func 141) #[] #[.pointer (some ⟨p6, 0, none⟩), .pointer (some ⟨p7, 0, none⟩)])] 131)) c 0 n ∧ VarB ((w4.alloc (.cells #[(.func (.func 141) #[] #[.pointer (some ⟨p4, 0, none⟩), .pointer (some ⟨p5, 0, none⟩)])] 131)).alloc (.cells #[(.func (.func 141) #[] #[.pointer (some ⟨p6, 0, none⟩), .pointer (some ⟨p7, 0, none⟩)])] 131)) w4.heap.size 0 1000 ∧ VarB ((w4.alloc (.cells #[(.func (.func 141) #[] #[.pointer (some ⟨p4, 0, none⟩), .pointer (some ⟨p5, 0, none⟩)])] 131)).alloc (.cells #[(.func (.func 141) #[] #[.pointer (some ⟨p6, 0, none⟩), .pointer (some ⟨p7, 0, none⟩)])] 131)) (w4.heap.size + 1) 0 1000000000 ∧ Below w4.heap.size w4 ((w4.alloc (.cells #[(.func (.func 141) #[] #[.pointer (some ⟨p4, 0, none⟩), .pointer (some ⟨p5, 0, none⟩)])] 131)).alloc (.cells #[(.func (.func 141) #[] #[.pointer (some ⟨p6, 0, none⟩), .pointer (some ⟨p7, 0, none⟩)])] 131)) := by
 have hb : Below w4.heap.size w4 ((w4.alloc (.cells #[(.func (.func 141) #[] #[.pointer (some ⟨p4, 0, none⟩), .pointer (some ⟨p5, 0, none⟩)])] 131)).alloc (.cells #[(.func (.func 141) #[] #[.pointer (some ⟨p6, 0, none⟩), .pointer (some ⟨p7, 0, none⟩)])] 131)) := ((Below.refl _ _).alloc (Nat.le_refl _) _).alloc (by simp) _
 have h1 := Blk.made (w4.alloc (.cells #[(.func (.func 141) #[] #[.pointer (some ⟨p4, 0, none⟩), .pointer (some ⟨p5, 0, none⟩)])] 131)) #[(.func (.func 141) #[] #[.pointer (some ⟨p6, 0, none⟩), .pointer (some ⟨p7, 0, none⟩)])] 131
 simp only [World.size_alloc] at h1
 exact ⟨⟨_, low hc hb, _, _, rfl, low u2 hb, low u3 hb⟩, ⟨_, ((Blk.made w4 #[(.func (.func 141) #[] #[.pointer (some ⟨p4, 0, none⟩), .pointer (some ⟨p5, 0, none⟩)])] 131).alloc _).cell 0 rfl, _, _, rfl, low u4 hb, low u5 hb⟩, ⟨_, h1.cell 0 rfl, _, _, rfl, low u6 hb, low u7 hb⟩, hb⟩
set_option maxRecDepth 100000 in
set_option maxHeartbeats 2000000 in
theorem isInRange_any (v : Value) (m : Mc) (w : World) (h : Mach w v m) (hok : okM m) (h60 : m.2.length ≤ 60) (r : Bool) (hr : rangeB m = r) :
  Calls Tryz.prog 58 #[v] w fun e w' => e = .returned (.bool r) ∧ Below w.heap.size w w' := by
 subst hr
 obtain ⟨z, l⟩ := m
 obtain ⟨vs, rfl, hS⟩ := h
 obtain ⟨a, cap, rfl⟩ := hS.sl
 have HM : Hid (Mach w (.agg #[.int .i64 z, .slice a l.length cap]) (z, l)) := ⟨_, rfl, hS⟩
 have HK : Hid (okM (z, l)) := hok
 have H60 : Hid (l.length ≤ 60) := h60
 clear hS hok
 have hmf : ∀ (fn : Fn) (first cap : Array Value) (w : World), (Instr.makeFunc fn first cap).run Tryz.prog w = .ok (.func fn first cap) w := fun _ _ _ _ => rfl
 unfold rangeB
 simp only at h60 ⊢
 rw [all_both]
 generalize hr1 : inB z (-1) ((l.length : Int) - 1) = r1
 generalize hr2 : l.all (fun s => finB s.1) = r2
 generalize hr3 : l.all (fun s => s.2.all (arcB l.length)) = r3
 have H1 : Hid (inB z (-1) ((l.length : Int) - 1) = r1) := hr1
 have H2 : Hid (l.all (fun s => finB s.1) = r2) := hr2
 have H3 : Hid (l.all (fun s => s.2.all (arcB l.length)) = r3) := hr3
 clear hr1 hr2 hr3
 generalize hn : l.length = n at *
 have HN : Hid (l.length = n) := hn
 clear hn
 cases r1
 ·go_enter Tryz.func58, Tryz.ntmps58
  go_wp2_with (first
    | (go_at_call 105; (with_reducible refine (between_any (-1) ((n : Int) - 1) _).mono ?_); rintro e w1 ⟨p0, p1, rfl, x0, x1, hb⟩; obtain ⟨s1, k1, hb1⟩ := boxed hb (by simp); have c0 := k1.cell 0 (v := .int .i64 z) rfl; have c1 := k1.cell 1 (v := .slice a n cap) rfl; have HB1 : Hid (Below w.heap.size w w1) := hb1; clear k1 hb1 hb)
    | (go_at_call 105; (with_reducible refine (between_any 0 ((n : Int) - 1) _).mono ?_); rintro e w2 ⟨p2, p3, rfl, x2, x3, hb⟩; have y0 := low x0 hb; have y1 := low x1 hb; have d0 := low c0 hb; have d1 := low c1 hb; have HB2 : Hid (Below w.heap.size w w2) := HB1.out.trans (hb.mono HB1.out.size); clear hb)
    | (go_at_call 105; (with_reducible refine (between_any 0 1000 _).mono ?_); rintro e w3 ⟨p4, p5, rfl, x4, x5, hb⟩; have z0 := lowA y0 hb; have z1 := lowA y1 hb; have z2 := lowA x2 hb; have z3 := lowA x3 hb; have e0 := lowA d0 hb; have e1 := lowA d1 hb; have e2 := lowN hb; have HB3 : Hid (Below w.heap.size w w3) := (HB2.out.alloc HB2.out.size _).trans (hb.mono (by have h := HB2.out.size; simp; omega)); clear hb)
    | (go_at_call 105; (with_reducible refine (between_any 0 1000000000 _).mono ?_); rintro e w4 ⟨p6, p7, rfl, x6, x7, hb⟩; have u0 := low z0 hb; have u1 := low z1 hb; have u2 := low z2 hb; have u3 := low z3 hb; have u4 := low x4 hb; have u5 := low x5 hb; have f0 := low e0 hb; have f1 := low e1 hb; have f2 := low e2 hb; have HB4 : Hid (Below w.heap.size w w4) := HB3.out.trans (hb.mono HB3.out.size); have t0 : w.heap.size < w4.heap.size := World.block_lt_of_cell? _ _ f0; have t1 : p0 < w4.heap.size := World.block_lt_of_cell? _ _ u0; have t2 : p1 < w4.heap.size := World.block_lt_of_cell? _ _ u1; have t3 : p2 < w4.heap.size := World.block_lt_of_cell? _ _ u2; have t4 : p3 < w4.heap.size := World.block_lt_of_cell? _ _ u3; have t5 : p4 < w4.heap.size := World.block_lt_of_cell? _ _ u4; have t6 : p5 < w4.heap.size := World.block_lt_of_cell? _ _ u5; have t7 : p6 < w4.heap.size := World.block_lt_of_cell? _ _ x6; have t8 : p7 < w4.heap.size := World.block_lt_of_cell? _ _ x7; have t9 : w2.heap.size < w4.heap.size := World.block_lt_of_cell? _ _ f2; obtain ⟨vb1, vb2, vb3, hbu⟩ := varsB u2 u3 u4 u5 x6 x7 f2; have V1 : Hid (VarB ((w4.alloc (.cells #[(.func (.func 141) #[] #[.pointer (some ⟨p4, 0, none⟩), .pointer (some ⟨p5, 0, none⟩)])] 131)).alloc (.cells #[(.func (.func 141) #[] #[.pointer (some ⟨p6, 0, none⟩), .pointer (some ⟨p7, 0, none⟩)])] 131)) w2.heap.size 0 ((n : Int) - 1)) := vb1; have V2 : Hid (VarB ((w4.alloc (.cells #[(.func (.func 141) #[] #[.pointer (some ⟨p4, 0, none⟩), .pointer (some ⟨p5, 0, none⟩)])] 131)).alloc (.cells #[(.func (.func 141) #[] #[.pointer (some ⟨p6, 0, none⟩), .pointer (some ⟨p7, 0, none⟩)])] 131)) w4.heap.size 0 1000) := vb2; have V3 : Hid (VarB ((w4.alloc (.cells #[(.func (.func 141) #[] #[.pointer (some ⟨p4, 0, none⟩), .pointer (some ⟨p5, 0, none⟩)])] 131)).alloc (.cells #[(.func (.func 141) #[] #[.pointer (some ⟨p6, 0, none⟩), .pointer (some ⟨p7, 0, none⟩)])] 131)) (w4.heap.size + 1) 0 1000000000) := vb3; have HU : Hid (Below w.heap.size w ((w4.alloc (.cells #[(.func (.func 141) #[] #[.pointer (some ⟨p4, 0, none⟩), .pointer (some ⟨p5, 0, none⟩)])] 131)).alloc (.cells #[(.func (.func 141) #[] #[.pointer (some ⟨p6, 0, none⟩), .pointer (some ⟨p7, 0, none⟩)])] 131))) := HB4.out.trans (hbu.mono HB4.out.size); clear vb1 vb2 vb3 hbu hb y0 y1 z0 z1 z2 z3 d0 d1 e0 e1 e2 c0 c1 x0 x1 x2 x3 x4 x5)
    | (go_at_call 141; (with_reducible refine (between1_any _ _ _ _ _ _ (by go_cell) (by go_cell) _ H1.out).mono ?_); rintro e w' ⟨rfl, rfl⟩))
  go_ret
  exact ⟨rfl, by (have h := HB4.out); go_grown⟩
 cases r2
 ·go_enter Tryz.func58, Tryz.ntmps58
  go_wp2_with (first
    | (go_at_call 105; (with_reducible refine (between_any (-1) ((n : Int) - 1) _).mono ?_); rintro e w1 ⟨p0, p1, rfl, x0, x1, hb⟩; obtain ⟨s1, k1, hb1⟩ := boxed hb (by simp); have c0 := k1.cell 0 (v := .int .i64 z) rfl; have c1 := k1.cell 1 (v := .slice a n cap) rfl; have HB1 : Hid (Below w.heap.size w w1) := hb1; clear k1 hb1 hb)
    | (go_at_call 105; (with_reducible refine (between_any 0 ((n : Int) - 1) _).mono ?_); rintro e w2 ⟨p2, p3, rfl, x2, x3, hb⟩; have y0 := low x0 hb; have y1 := low x1 hb; have d0 := low c0 hb; have d1 := low c1 hb; have HB2 : Hid (Below w.heap.size w w2) := HB1.out.trans (hb.mono HB1.out.size); clear hb)
    | (go_at_call 105; (with_reducible refine (between_any 0 1000 _).mono ?_); rintro e w3 ⟨p4, p5, rfl, x4, x5, hb⟩; have z0 := lowA y0 hb; have z1 := lowA y1 hb; have z2 := lowA x2 hb; have z3 := lowA x3 hb; have e0 := lowA d0 hb; have e1 := lowA d1 hb; have e2 := lowN hb; have HB3 : Hid (Below w.heap.size w w3) := (HB2.out.alloc HB2.out.size _).trans (hb.mono (by have h := HB2.out.size; simp; omega)); clear hb)
    | (go_at_call 105; (with_reducible refine (between_any 0 1000000000 _).mono ?_); rintro e w4 ⟨p6, p7, rfl, x6, x7, hb⟩; have u0 := low z0 hb; have u1 := low z1 hb; have u2 := low z2 hb; have u3 := low z3 hb; have u4 := low x4 hb; have u5 := low x5 hb; have f0 := low e0 hb; have f1 := low e1 hb; have f2 := low e2 hb; have HB4 : Hid (Below w.heap.size w w4) := HB3.out.trans (hb.mono HB3.out.size); have t0 : w.heap.size < w4.heap.size := World.block_lt_of_cell? _ _ f0; have t1 : p0 < w4.heap.size := World.block_lt_of_cell? _ _ u0; have t2 : p1 < w4.heap.size := World.block_lt_of_cell? _ _ u1; have t3 : p2 < w4.heap.size := World.block_lt_of_cell? _ _ u2; have t4 : p3 < w4.heap.size := World.block_lt_of_cell? _ _ u3; have t5 : p4 < w4.heap.size := World.block_lt_of_cell? _ _ u4; have t6 : p5 < w4.heap.size := World.block_lt_of_cell? _ _ u5; have t7 : p6 < w4.heap.size := World.block_lt_of_cell? _ _ x6; have t8 : p7 < w4.heap.size := World.block_lt_of_cell? _ _ x7; have t9 : w2.heap.size < w4.heap.size := World.block_lt_of_cell? _ _ f2; obtain ⟨vb1, vb2, vb3, hbu⟩ := varsB u2 u3 u4 u5 x6 x7 f2; have V1 : Hid (VarB ((w4.alloc (.cells #[(.func (.func 141) #[] #[.pointer (some ⟨p4, 0, none⟩), .pointer (some ⟨p5, 0, none⟩)])] 131)).alloc (.cells #[(.func (.func 141) #[] #[.pointer (some ⟨p6, 0, none⟩), .pointer (some ⟨p7, 0, none⟩)])] 131)) w2.heap.size 0 ((n : Int) - 1)) := vb1; have V2 : Hid (VarB ((w4.alloc (.cells #[(.func (.func 141) #[] #[.pointer (some ⟨p4, 0, none⟩), .pointer (some ⟨p5, 0, none⟩)])] 131)).alloc (.cells #[(.func (.func 141) #[] #[.pointer (some ⟨p6, 0, none⟩), .pointer (some ⟨p7, 0, none⟩)])] 131)) w4.heap.size 0 1000) := vb2; have V3 : Hid (VarB ((w4.alloc (.cells #[(.func (.func 141) #[] #[.pointer (some ⟨p4, 0, none⟩), .pointer (some ⟨p5, 0, none⟩)])] 131)).alloc (.cells #[(.func (.func 141) #[] #[.pointer (some ⟨p6, 0, none⟩), .pointer (some ⟨p7, 0, none⟩)])] 131)) (w4.heap.size + 1) 0 1000000000) := vb3; have HU : Hid (Below w.heap.size w ((w4.alloc (.cells #[(.func (.func 141) #[] #[.pointer (some ⟨p4, 0, none⟩), .pointer (some ⟨p5, 0, none⟩)])] 131)).alloc (.cells #[(.func (.func 141) #[] #[.pointer (some ⟨p6, 0, none⟩), .pointer (some ⟨p7, 0, none⟩)])] 131))) := HB4.out.trans (hbu.mono HB4.out.size); clear vb1 vb2 vb3 hbu hb y0 y1 z0 z1 z2 z3 d0 d1 e0 e1 e2 c0 c1 x0 x1 x2 x3 x4 x5)
    | (go_at_call 141; (with_reducible refine (between1_any _ _ _ _ _ _ (by go_cell) (by go_cell) _ H1.out).mono ?_); rintro e w' ⟨rfl, rfl⟩)
      | (go_at_call 32; (with_reducible refine (everyState_any _ (z, l) _ (HM.out.later HU.out (Nat.le_refl _)) _ _ _ (mayEnd_ask _ l _ V3.out) (by show l.length ≤ 60; rw [HN.out]; exact H60.out) _ H2.out).mono ?_); rintro e w5 ⟨rfl, hb⟩; have HB5 : Hid (Below w.heap.size w w5) := HU.out.trans (hb.mono HU.out.size); clear hb))
  go_ret
  exact ⟨rfl, HB5.out⟩
 go_enter Tryz.func58, Tryz.ntmps58
 go_wp2_with (first
   | (go_at_call 105; (with_reducible refine (between_any (-1) ((n : Int) - 1) _).mono ?_); rintro e w1 ⟨p0, p1, rfl, x0, x1, hb⟩; obtain ⟨s1, k1, hb1⟩ := boxed hb (by simp); have c0 := k1.cell 0 (v := .int .i64 z) rfl; have c1 := k1.cell 1 (v := .slice a n cap) rfl; have HB1 : Hid (Below w.heap.size w w1) := hb1; clear k1 hb1 hb)
   | (go_at_call 105; (with_reducible refine (between_any 0 ((n : Int) - 1) _).mono ?_); rintro e w2 ⟨p2, p3, rfl, x2, x3, hb⟩; have y0 := low x0 hb; have y1 := low x1 hb; have d0 := low c0 hb; have d1 := low c1 hb; have HB2 : Hid (Below w.heap.size w w2) := HB1.out.trans (hb.mono HB1.out.size); clear hb)
   | (go_at_call 105; (with_reducible refine (between_any 0 1000 _).mono ?_); rintro e w3 ⟨p4, p5, rfl, x4, x5, hb⟩; have z0 := lowA y0 hb; have z1 := lowA y1 hb; have z2 := lowA x2 hb; have z3 := lowA x3 hb; have e0 := lowA d0 hb; have e1 := lowA d1 hb; have e2 := lowN hb; have HB3 : Hid (Below w.heap.size w w3) := (HB2.out.alloc HB2.out.size _).trans (hb.mono (by have h := HB2.out.size; simp; omega)); clear hb)
   | (go_at_call 105; (with_reducible refine (between_any 0 1000000000 _).mono ?_); rintro e w4 ⟨p6, p7, rfl, x6, x7, hb⟩; have u0 := low z0 hb; have u1 := low z1 hb; have u2 := low z2 hb; have u3 := low z3 hb; have u4 := low x4 hb; have u5 := low x5 hb; have f0 := low e0 hb; have f1 := low e1 hb; have f2 := low e2 hb; have HB4 : Hid (Below w.heap.size w w4) := HB3.out.trans (hb.mono HB3.out.size); have t0 : w.heap.size < w4.heap.size := World.block_lt_of_cell? _ _ f0; have t1 : p0 < w4.heap.size := World.block_lt_of_cell? _ _ u0; have t2 : p1 < w4.heap.size := World.block_lt_of_cell? _ _ u1; have t3 : p2 < w4.heap.size := World.block_lt_of_cell? _ _ u2; have t4 : p3 < w4.heap.size := World.block_lt_of_cell? _ _ u3; have t5 : p4 < w4.heap.size := World.block_lt_of_cell? _ _ u4; have t6 : p5 < w4.heap.size := World.block_lt_of_cell? _ _ u5; have t7 : p6 < w4.heap.size := World.block_lt_of_cell? _ _ x6; have t8 : p7 < w4.heap.size := World.block_lt_of_cell? _ _ x7; have t9 : w2.heap.size < w4.heap.size := World.block_lt_of_cell? _ _ f2; obtain ⟨vb1, vb2, vb3, hbu⟩ := varsB u2 u3 u4 u5 x6 x7 f2; have V1 : Hid (VarB ((w4.alloc (.cells #[(.func (.func 141) #[] #[.pointer (some ⟨p4, 0, none⟩), .pointer (some ⟨p5, 0, none⟩)])] 131)).alloc (.cells #[(.func (.func 141) #[] #[.pointer (some ⟨p6, 0, none⟩), .pointer (some ⟨p7, 0, none⟩)])] 131)) w2.heap.size 0 ((n : Int) - 1)) := vb1; have V2 : Hid (VarB ((w4.alloc (.cells #[(.func (.func 141) #[] #[.pointer (some ⟨p4, 0, none⟩), .pointer (some ⟨p5, 0, none⟩)])] 131)).alloc (.cells #[(.func (.func 141) #[] #[.pointer (some ⟨p6, 0, none⟩), .pointer (some ⟨p7, 0, none⟩)])] 131)) w4.heap.size 0 1000) := vb2; have V3 : Hid (VarB ((w4.alloc (.cells #[(.func (.func 141) #[] #[.pointer (some ⟨p4, 0, none⟩), .pointer (some ⟨p5, 0, none⟩)])] 131)).alloc (.cells #[(.func (.func 141) #[] #[.pointer (some ⟨p6, 0, none⟩), .pointer (some ⟨p7, 0, none⟩)])] 131)) (w4.heap.size + 1) 0 1000000000) := vb3; have HU : Hid (Below w.heap.size w ((w4.alloc (.cells #[(.func (.func 141) #[] #[.pointer (some ⟨p4, 0, none⟩), .pointer (some ⟨p5, 0, none⟩)])] 131)).alloc (.cells #[(.func (.func 141) #[] #[.pointer (some ⟨p6, 0, none⟩), .pointer (some ⟨p7, 0, none⟩)])] 131))) := HB4.out.trans (hbu.mono HB4.out.size); clear vb1 vb2 vb3 hbu hb y0 y1 z0 z1 z2 z3 d0 d1 e0 e1 e2 c0 c1 x0 x1 x2 x3 x4 x5)
   | (go_at_call 141; (with_reducible refine (between1_any _ _ _ _ _ _ (by go_cell) (by go_cell) _ H1.out).mono ?_); rintro e w' ⟨rfl, rfl⟩)
     | (go_at_call 32; (with_reducible refine (everyState_any _ (z, l) _ (HM.out.later HU.out (Nat.le_refl _)) _ _ _ (mayEnd_ask _ l _ V3.out) (by show l.length ≤ 60; rw [HN.out]; exact H60.out) _ H2.out).mono ?_); rintro e w5 ⟨rfl, hb⟩; have HB5 : Hid (Below w.heap.size w w5) := HU.out.trans (hb.mono HU.out.size); have r0 := low (low (low f0 ((Below.refl _ _).alloc (Nat.le_refl _) (.cells #[(.func (.func 141) #[] #[.pointer (some ⟨p4, 0, none⟩), .pointer (some ⟨p5, 0, none⟩)])] 131))) ((Below.refl _ _).alloc (Nat.le_refl _) _)) hb; have r1 := low (low (low f1 ((Below.refl _ _).alloc (Nat.le_refl _) (.cells #[(.func (.func 141) #[] #[.pointer (some ⟨p4, 0, none⟩), .pointer (some ⟨p5, 0, none⟩)])] 131))) ((Below.refl _ _).alloc (Nat.le_refl _) _)) hb; have W1 : Hid (VarB w5 w2.heap.size 0 ((n : Int) - 1)) := V1.out.later hb (Nat.le_refl _); have W2 : Hid (VarB w5 w4.heap.size 0 1000) := V2.out.later hb (Nat.le_refl _); have W3 : Hid (VarB w5 (w4.heap.size + 1) 0 1000000000) := V3.out.later hb (Nat.le_refl _); clear hb)
   | (go_at_call 29; (with_reducible refine (everyArc_any _ (z, l) _ (HM.out.later HB5.out (Nat.le_refl _)) _ _ _ (mayBe_ask _ _ _ n _ W2.out W3.out W1.out) HK.out (by show l.length ≤ 60; rw [HN.out]; exact H60.out) _ H3.out).mono ?_); rintro e w6 ⟨rfl, hb⟩; have HB6 : Hid (Below w.heap.size w w6) := HB5.out.trans (hb.mono HB5.out.size); clear hb))
 go_ret
 exact ⟨rfl, HB6.out⟩
theorem coreCheck_any (v : Value) (m : Mc) (w : World) (h : Mach w v m) (hok : okM m) (r : Int) (hr : faultM m = r) :
  Calls Tryz.prog 28 #[v] w fun e w' => e = .returned (.int .i64 r) ∧ Below w.heap.size w w' := by
 subst hr
 obtain ⟨z, l⟩ := m
 obtain ⟨vs, rfl, hS⟩ := h
 obtain ⟨a, cap, rfl⟩ := hS.sl
 have HM : Hid (Mach w (.agg #[.int .i64 z, .slice a l.length cap]) (z, l)) := ⟨_, rfl, hS⟩
 have HK : Hid (okM (z, l)) := hok
 have hnot : ∀ (x : Bool) (w : World), (Op.unary .not (.bool x)).run Tryz.prog w = .ok (.bool (!x)) w := fun _ _ => rfl
 clear hS hok
 simp only
 by_cases h60 : l.length ≤ 60
 ·have H60 : Hid (l.length ≤ 60) := h60
  by_cases h400 : arcN l ≤ 400
  ·have hsz : sizeB (z, l) = true := by simp [sizeB, h60, h400]
   generalize hr : rangeB (z, l) = r
   have HR : Hid (rangeB (z, l) = r) := hr
   have HF : Hid ((if r = true then (0 : Int) else 2) = faultM (z, l)) := by show _ = _; unfold faultM; rw [if_pos hsz, hr]
   clear hr hsz
   generalize hq : arcN l = q at *
   have HQ : Hid (arcN l = q) := hq
   clear hq
   have h4 : ¬ (400 : Int) < (q : Int) := by omega
   generalize hn : l.length = n at *
   have HN : Hid (l.length = n) := hn
   clear hn
   have h6 : ¬ (60 : Int) < (n : Int) := by omega
   cases r
   all_goals
    go_enter Tryz.func28, Tryz.ntmps28
    go_wp2_with (first
     | (go_at_call 46; (with_reducible refine (arcsOf_any _ (z, l) _ (HM.out.later (B := w.heap.size) (by go_grown) (Nat.le_refl _)) HK.out (by show l.length ≤ 60; rw [HN.out]; exact H60.out) q HQ.out).mono ?_); rintro e w1 ⟨rfl, hb⟩; obtain ⟨s1, b1, hb1⟩ := boxed hb (by simp); have c0 := b1.cell 0 (v := .int .i64 z) rfl; have c1 := b1.cell 1 (v := .slice a n cap) rfl; have HB : Hid (Below w.heap.size w w1) := hb1; clear b1 hb1 hb)
     | (go_at_call 58; (with_reducible refine (isInRange_any _ (z, l) _ (HM.out.later HB.out (Nat.le_refl _)) HK.out (by show l.length ≤ 60; rw [HN.out]; exact H60.out) _ HR.out).mono ?_); rintro e w2 ⟨rfl, hb⟩; have HB2 : Hid (Below w.heap.size w w2) := HB.out.trans (hb.mono HB.out.size); clear hb))
    go_ret
    exact ⟨ret_intK HF.out, HB2.out⟩
  ·have HF : Hid (faultM (z, l) = 1) := faultM_size (by simp [sizeB]; omega)
   generalize hq : arcN l = q at *
   have HQ : Hid (arcN l = q) := hq
   clear hq
   have h4 : (400 : Int) < (q : Int) := by omega
   generalize hn : l.length = n at *
   have HN : Hid (l.length = n) := hn
   clear hn
   have h6 : ¬ (60 : Int) < (n : Int) := by omega
   go_enter Tryz.func28, Tryz.ntmps28
   go_wp2_with (first
     | (go_at_call 46; (with_reducible refine (arcsOf_any _ (z, l) _ (HM.out.later (B := w.heap.size) (by go_grown) (Nat.le_refl _)) HK.out (by show l.length ≤ 60; rw [HN.out]; exact H60.out) q HQ.out).mono ?_); rintro e w1 ⟨rfl, hb⟩; obtain ⟨s1, b1, hb1⟩ := boxed hb (by simp); have HB : Hid (Below w.heap.size w w1) := hb1; clear b1 hb1 hb))
   go_ret
   exact ⟨ret_intK HF.out.symm, HB.out⟩
 ·have HF : Hid (faultM (z, l) = 1) := faultM_size (by simp [sizeB]; omega)
  have h6 : (60 : Int) < (l.length : Int) := by omega
  go_enter Tryz.func28, Tryz.ntmps28
  go_wp2
  go_ret
  exact ⟨ret_intK HF.out.symm, by go_grown⟩
end Go.Proofs.YtfhjncpakgailaaGreatDoor.Wt
namespace Go.Proofs.YtfhjncpakgailaaGreatDoor.Wt
open Go.ChangeShapes Go.WideShapes Go.ChangeAt Go.RowKit
open Go.Proofs.YtfhjncpakgailaaGreatDoor.Pl
set_option linter.unusedVariables false
set_option linter.unusedSimpArgs false
theorem right_ok {m : Mc} (h : faultM m = 0) : okM m := by
 have h1 := right_size (z := m.1) (l := m.2) h
 exact small_ok (by omega) (by omega)
end Go.Proofs.YtfhjncpakgailaaGreatDoor.Wt
namespace Go.Proofs.YtfhjncpakgailaaGreatDoor.Pl
set_option linter.unusedVariables false
set_option linter.unusedSimpArgs false
abbrev Hg (α : Type) := Int × Int × Int × α
section
variable {α : Type} [DecidableEq α]
def addG (L : List α) (t : α) : List α := if t ∈ L then L else L ++ [t]
def arcG (L : List α) (h : Hg α) : Ar := (h.1, h.2.1, h.2.2.1, (L.idxOf h.2.2.2 : Int))
def numH : List (Hg α) → List α → Nat → Int × List α × List Ar
 | [], L, _ => (0, L, [])
 | h :: hs, L, n => if 1000000000 < h.2.2.1 then (4, [], []) else if 400 < n + 1 ∨ 60 < (addG L h.2.2.2).length then (5, [], []) else ((numH hs (addG L h.2.2.2) (n + 1)).1, (numH hs (addG L h.2.2.2) (n + 1)).2.1, arcG L h :: (numH hs (addG L h.2.2.2) (n + 1)).2.2)
theorem addG_ext (L : List α) (t : α) : ∃ E, addG L t = L ++ E := by
 unfold addG
 split
 ·exact ⟨[], by simp⟩
 ·exact ⟨[t], rfl⟩
theorem addG_mem (L : List α) (t : α) : t ∈ addG L t := by
 unfold addG
 split
 ·assumption
 ·simp
theorem addG_nodup {L : List α} (h : L.Nodup) (t : α) : (addG L t).Nodup := by
 unfold addG
 split
 ·exact h
 ·rename_i g
  rw [List.nodup_append]
  refine ⟨h, by simp, fun x hx y hy e => ?_⟩
  simp only [List.mem_singleton] at hy
  exact g (by rw [← hy, ← e]; exact hx)
theorem addG_old {L : List α} {t : α} (h : t ∈ L) : addG L t = L := if_pos h
theorem addG_new {L : List α} {t : α} (h : t ∉ L) : addG L t = L ++ [t] := if_neg h
theorem addG_len (L : List α) (t : α) : L.length ≤ (addG L t).length ∧ (addG L t).length ≤ L.length + 1 := by
 unfold addG
 split
 ·omega
 ·simp
theorem idxG_ext {L E : List α} {t : α} (h : t ∈ L) : (L ++ E).idxOf t = L.idxOf t := by
 rw [List.idxOf_append, if_pos h]
theorem addG_idx (L : List α) (t : α) : (addG L t).idxOf t = L.idxOf t := by
 unfold addG
 split
 ·rfl
 ·rename_i g
  rw [List.idxOf_append, if_neg g, List.idxOf_eq_length g]
  simp
theorem idxG_new {L : List α} {t : α} (h : t ∉ L) : L.idxOf t = L.length := List.idxOf_eq_length h
theorem numH_facts (hs : List (Hg α)) : ∀ (L : List α) (n : Nat), L.Nodup → (numH hs L n).1 = 0 → (∃ E, (numH hs L n).2.1 = L ++ E) ∧ (numH hs L n).2.1.Nodup ∧ (∀ h ∈ hs, h.2.2.2 ∈ (numH hs L n).2.1 ∧ h.2.2.1 ≤ 1000000000) ∧ (numH hs L n).2.2 = hs.map (arcG (numH hs L n).2.1) ∧ (L.length ≤ 60 → (numH hs L n).2.1.length ≤ 60) ∧ (n ≤ 400 → n + hs.length ≤ 400) := by
  induction hs with
  | nil => intro L n h _; exact ⟨⟨[], by simp [numH]⟩, h, fun h hh => (by cases hh), rfl, fun h => h, fun h => h⟩
  | cons h hs ih =>
    intro L n hL h0
    simp only [numH] at h0 ⊢
    by_cases c1 : 1000000000 < h.2.2.1
    · rw [if_pos c1] at h0
      cases h0
    · rw [if_neg c1] at h0 ⊢
      by_cases c2 : 400 < n + 1 ∨ 60 < (addG L h.2.2.2).length
      · rw [if_pos c2] at h0
        cases h0
      · rw [if_neg c2] at h0 ⊢
        simp only at h0 ⊢
        obtain ⟨⟨E, e1⟩, h2, h3, h4, h5, h6⟩ := ih _ (n + 1) (addG_nodup hL h.2.2.2) h0
        obtain ⟨D, e2⟩ := addG_ext L h.2.2.2
        have hin : h.2.2.2 ∈ (numH hs (addG L h.2.2.2) (n + 1)).2.1 := by
          rw [e1]
          exact List.mem_append_left _ (addG_mem _ _)
        refine ⟨⟨D ++ E, by rw [e1, e2, List.append_assoc]⟩, h2, fun k hk => ?_, ?_, fun _ => h5 (by omega), fun _ => ?_⟩
        · rcases List.mem_cons.1 hk with rfl | hk
          · exact ⟨hin, by omega⟩
          · exact h3 k hk
        · simp only [List.map_cons]
          rw [h4]
          congr 1
          simp only [arcG]
          rw [e1, idxG_ext (addG_mem _ _), addG_idx]
        · have := h6 (by omega)
          simp only [List.length_cons]
          omega
theorem numH_led (hs : List (Hg α)) : ∀ (L : List α) (n : Nat), (numH hs L n).1 = 0 → ∀ t ∈ (numH hs L n).2.1, t ∈ L ∨ ∃ h ∈ hs, h.2.2.2 = t := by
  induction hs with
  | nil => intro L n _ t ht; exact .inl ht
  | cons h hs ih =>
    intro L n h0 t ht
    simp only [numH] at h0 ht
    by_cases c1 : 1000000000 < h.2.2.1
    · rw [if_pos c1] at h0
      cases h0
    · rw [if_neg c1] at h0 ht
      by_cases c2 : 400 < n + 1 ∨ 60 < (addG L h.2.2.2).length
      · rw [if_pos c2] at h0
        cases h0
      · rw [if_neg c2] at h0 ht
        rcases ih _ _ h0 t ht with g | ⟨k, hk, e⟩
        · by_cases m : h.2.2.2 ∈ L
          · rw [addG_old m] at g; exact .inl g
          · rw [addG_new m] at g
            rcases List.mem_append.1 g with g | g
            · exact .inl g
            · simp only [List.mem_singleton] at g
              exact .inr ⟨h, List.mem_cons_self, g.symm⟩
        · exact .inr ⟨k, List.mem_cons_of_mem _ hk, e⟩
end
section
variable {α : Type} [DecidableEq α] [Inhabited α]
variable (fin : α → Int × Int) (hops : α → List (Hg α))
def numS : Nat → Nat → List α → List St → Nat → Mc × Int
  | 0, _, _, _, _ => ((0, []), 5)
  | k + 1, q, L, S, n =>
    if q < L.length then
      if (fin (el L q)).2 ≠ 0 then ((0, []), (fin (el L q)).2)
      else if (numH (hops (el L q)) L n).1 ≠ 0 then ((0, []), (numH (hops (el L q)) L n).1)
      else numS k (q + 1) (numH (hops (el L q)) L n).2.1 (S ++ [((fin (el L q)).1, (numH (hops (el L q)) L n).2.2)]) (n + (hops (el L q)).length)
    else ((0, S), 0)
def numA (s0 : α) : Mc × Int := numS fin hops 61 0 [s0] [] 0
variable {fin} {hops}
theorem idxG_el {L : List α} (hn : L.Nodup) {k : Nat} (h : k < L.length) : L.idxOf (el L k) = k := by
  induction L generalizing k with
  | nil => simp at h
  | cons x L ih =>
    rw [List.nodup_cons] at hn
    cases k with
    | zero => simp [el]
    | succ k =>
      have hk : k < L.length := by simpa using h
      have e9 : el (x :: L) (k + 1) = el L k := by simp [el]
      have hne : ¬ x = el L k := fun e => hn.1 (by rw [e]; exact el_mem hk)
      rw [e9, List.idxOf_cons]
      have hb : (x == el L k) = false := by simpa using hne
      rw [hb, ih hn.2 hk]
      rfl
theorem el_idxG {L : List α} {t : α} (h : t ∈ L) : L.idxOf t < L.length ∧ el L (L.idxOf t) = t := by
 have h1 : L.idxOf t < L.length := List.idxOf_lt_length_iff.2 h
 exact ⟨h1, by rw [el_get h1]; exact List.getElem_idxOf h1⟩
structure ExpI (fin : α → Int × Int) (hops : α → List (Hg α)) (s0 : α) (q : Nat) (L : List α) (S : List St) : Prop where
 nodup : L.Nodup
 le : q ≤ L.length
 l60 : L.length ≤ 60
 len : S.length = q
 start : ∃ E, L = s0 :: E
 right : ∀ i, i < q → (fin (el L i)).2 = 0
 low : ∀ i, i < q → ∀ h ∈ hops (el L i), h.2.2.1 ≤ 1000000000
 shut : ∀ i, i < q → ∀ h ∈ hops (el L i), h.2.2.2 ∈ L
 sts : ∀ i, i < q → el S i = ((fin (el L i)).1, (hops (el L i)).map (arcG L))
 led : ∀ i, 0 < i → i < L.length → ∃ j h, j < i ∧ j < q + 1 ∧ h ∈ hops (el L j) ∧ h.2.2.2 = el L i
theorem ExpI.init (fin : α → Int × Int) (hops : α → List (Hg α)) (s0 : α) : ExpI fin hops s0 0 [s0] [] := ⟨by simp, by simp, by simp, rfl, ⟨[], rfl⟩, fun i hi => by omega, fun i hi => by omega, fun i hi => by omega, fun i hi => by omega, fun i h0 hi => by simp at hi; omega⟩
theorem ExpI.step {s0 : α} {q : Nat} {L : List α} {S : List St} {n : Nat} (h : ExpI fin hops s0 q L S) (hq : q < L.length) (he : (fin (el L q)).2 = 0) (h0 : (numH (hops (el L q)) L n).1 = 0) :
  ExpI fin hops s0 (q + 1) (numH (hops (el L q)) L n).2.1 (S ++ [((fin (el L q)).1, (numH (hops (el L q)) L n).2.2)]) := by
 obtain ⟨⟨E, e1⟩, h2, h3, h4, h5, _⟩ := numH_facts (hops (el L q)) L n h.nodup h0
 have h6 := numH_led (hops (el L q)) L n h0
 have h5 := h5 h.l60
 rw [h4]
 generalize (numH (hops (el L q)) L n).2.1 = L' at *
 subst e1
 have hel : ∀ i, i < L.length → el (L ++ E) i = el L i := fun i hi => el_appendL hi
 refine ⟨h2, by simp; omega, h5, by simp [h.len], ?_, fun i hi => ?_, fun i hi k hk => ?_, fun i hi k hk => ?_, fun i hi => ?_, fun i hp hi => ?_⟩
 ·obtain ⟨D, e⟩ := h.start
  exact ⟨D ++ E, by rw [e]; rfl⟩
 ·rw [hel i (by omega)]
  rcases Nat.lt_succ_iff_lt_or_eq.1 hi with g | rfl
  ·exact h.right i g
  ·exact he
 ·rw [hel i (by omega)] at hk
  rcases Nat.lt_succ_iff_lt_or_eq.1 hi with g | rfl
  ·exact h.low i g k hk
  ·exact (h3 k hk).2
 ·rw [hel i (by omega)] at hk
  rcases Nat.lt_succ_iff_lt_or_eq.1 hi with g | rfl
  ·exact List.mem_append_left _ (h.shut i g k hk)
  ·exact (h3 k hk).1
 ·rw [hel i (by omega)]
  rcases Nat.lt_succ_iff_lt_or_eq.1 hi with g | rfl
  ·rw [el_appendL (by rw [h.len]; exact g), h.sts i g]
   congr 1
   refine List.map_congr_left fun k hk => ?_
   simp only [arcG]
   rw [idxG_ext (h.shut i g k hk)]
  ·have := h.len
   subst this
   rw [el_appendE]
 ·by_cases hl : i < L.length
  ·obtain ⟨j, k, g1, g2, g3, g4⟩ := h.led i hp hl
   exact ⟨j, k, g1, by omega, by rw [hel j (by omega)]; exact g3, by rw [hel i hl]; exact g4⟩
  ·have hm : el (L ++ E) i ∈ L ++ E := el_mem hi
   rcases h6 _ hm with g | ⟨k, hk, e⟩
   ·obtain ⟨j, hj, ej⟩ := List.getElem_of_mem g
    have h7 := idxG_el h2 hi
    have h8 := idxG_el h2 (k := j) (by simp; omega)
    rw [hel j hj, el_get hj, ej, h7] at h8
    omega
   ·exact ⟨q, k, by omega, by omega, by rw [hel q hq]; exact hk, e⟩
theorem numS_done {s0 : α} : ∀ (k q : Nat) (L : List α) (S : List St) (n : Nat) (x : Mc), ExpI fin hops s0 q L S → numS fin hops k q L S n = (x, 0) → x.1 = 0 ∧ ∃ L', (∃ E, L' = L ++ E) ∧ ExpI fin hops s0 L'.length L' x.2 := by
  intro k
  induction k with
  | zero => intro q L S n x h e; simp only [numS, Prod.mk.injEq] at e; exact absurd e.2 (by decide)
  | succ k ih =>
    intro q L S n x h e
    simp only [numS] at e
    split at e
    · rename_i hq
      split at e
      · rename_i he
        simp only [Prod.mk.injEq] at e
        exact absurd e.2 he
      · rename_i he
        split at e
        · rename_i h0; simp only [Prod.mk.injEq] at e; exact absurd e.2 h0
        · rename_i h0
          have h0' : (numH (hops (el L q)) L n).1 = 0 := by simpa using h0
          obtain ⟨h1, L', ⟨E, e2⟩, h2⟩ := ih _ _ _ _ _ (h.step hq (by simpa using he) h0') e
          obtain ⟨⟨D, e3⟩, _⟩ := numH_facts (hops (el L q)) L n h.nodup h0'
          exact ⟨h1, L', ⟨D ++ E, by rw [e2, e3, List.append_assoc]⟩, h2⟩
    · rename_i hq
      simp only [Prod.mk.injEq] at e
      obtain ⟨rfl, _⟩ := e
      have : q = L.length := by have := h.le; omega
      subst this
      exact ⟨rfl, L, ⟨[], by simp⟩, h⟩
theorem numA_done {s0 : α} {x : Mc} (h : numA fin hops s0 = (x, 0)) : x.1 = 0 ∧ ∃ L, ExpI fin hops s0 L.length L x.2 := by
 obtain ⟨h1, L, _, h2⟩ := numS_done _ _ _ _ _ _ (ExpI.init fin hops s0) h
 exact ⟨h1, L, h2⟩
inductive HopG (hops : α → List (Hg α)) (s0 : α) : List Int → List Int → α → Nat → Prop
 | nil : HopG hops s0 [] [] s0 0
 | snoc {u v : List Int} {t : α} {c : Nat} {h : Hg α} : HopG hops s0 u v t c → h ∈ hops t → HopG hops s0 (u ++ lab h.1) (v ++ lab h.2.1) h.2.2.2 (c + h.2.2.1.toNat)
theorem ExpI.zero {s0 : α} {q : Nat} {L : List α} {S : List St} (h : ExpI fin hops s0 q L S) : 0 < L.length ∧ el L 0 = s0 ∧ L.idxOf s0 = 0 := by
 obtain ⟨E, rfl⟩ := h.start
 exact ⟨by simp, by simp [el], by simp⟩
end
end Go.Proofs.YtfhjncpakgailaaGreatDoor.Pl
