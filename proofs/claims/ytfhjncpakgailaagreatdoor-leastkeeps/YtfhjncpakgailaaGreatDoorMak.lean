/- What core.Check answers. -/
import Derived.Test.YtfhjncpakgailaaGreatDoorMaj
import Derived.Laws.EntriesVeiled
import Derived.Test.YtfhjncpakgailaaGreatDoorMai
import Derived.Test.YtfhjncpakgailaaGreatDoorMae
import Derived.WalkKit
import Derived.ProofKit
import Derived.OpenShut
import Derived.Below
import Derived.SizedLaws
import Derived.Laws.AppendOwnNone
import Derived.BigQuiet
import Derived.Deep.QuietTactic
import Derived.Test.YtfhjncpakgailaaGreatDoorMad
namespace Go.Proofs.YtfhjncpakgailaaGreatDoor.Wt
open Go.ChangeShapes Go.WideShapes Go.ChangeAt Go.RowKit
open Go.Proofs.YtfhjncpakgailaaGreatDoor.Pl
set_option linter.unusedVariables false
theorem between_any (lo hi : Int) (w : World) :
  Calls Tryz.prog 105 #[.int .i64 lo, .int .i64 hi] w fun e w' => ∃ b0 b1, e = .returned (.func (.func 141) #[] #[.pointer (some ⟨b0, 0, none⟩), .pointer (some ⟨b1, 0, none⟩)]) ∧ w'.cell? ⟨b0, 0, none⟩ = some (.int .i64 lo) ∧ w'.cell? ⟨b1, 0, none⟩ = some (.int .i64 hi) ∧ Below w.heap.size w w' := by
 have hmf : ∀ (fn : Fn) (first cap : Array Value) (w : World), (Instr.makeFunc fn first cap).run Tryz.prog w = .ok (.func fn first cap) w := fun _ _ _ _ => rfl
 go_enter Tryz.func105, Tryz.ntmps105
 go_wp2
 go_ret
 exact ⟨_, _, rfl, by go_cell, by go_cell, by go_grown⟩
theorem varsB {w4 : World} {p2 p3 p4 p5 p6 p7 c : Nat} {n : Int} (u2 : w4.cell? ⟨p2, 0, none⟩ = some (.int .i64 0)) (u3 : w4.cell? ⟨p3, 0, none⟩ = some (.int .i64 n)) (u4 : w4.cell? ⟨p4, 0, none⟩ = some (.int .i64 0)) (u5 : w4.cell? ⟨p5, 0, none⟩ = some (.int .i64 1000)) (u6 : w4.cell? ⟨p6, 0, none⟩ = some (.int .i64 0)) (u7 : w4.cell? ⟨p7, 0, none⟩ = some (.int .i64 1000000000))
  (hc : w4.cell? ⟨c, 0, none⟩ = some (.func (.func 141) #[] #[.pointer (some ⟨p2, 0, none⟩), .pointer (some ⟨p3, 0, none⟩)])) :
  VarB ((w4.alloc (.cells #[(.func (.func 141) #[] #[.pointer (some ⟨p4, 0, none⟩), .pointer (some ⟨p5, 0, none⟩)])] 131)).alloc (.cells #[(.func (.func 141) #[] #[.pointer (some ⟨p6, 0, none⟩), .pointer (some ⟨p7, 0, none⟩)])] 131)) c 0 n ∧ VarB ((w4.alloc (.cells #[(.func (.func 141) #[] #[.pointer (some ⟨p4, 0, none⟩), .pointer (some ⟨p5, 0, none⟩)])] 131)).alloc (.cells #[(.func (.func 141) #[] #[.pointer (some ⟨p6, 0, none⟩), .pointer (some ⟨p7, 0, none⟩)])] 131)) w4.heap.size 0 1000 ∧ VarB ((w4.alloc (.cells #[(.func (.func 141) #[] #[.pointer (some ⟨p4, 0, none⟩), .pointer (some ⟨p5, 0, none⟩)])] 131)).alloc (.cells #[(.func (.func 141) #[] #[.pointer (some ⟨p6, 0, none⟩), .pointer (some ⟨p7, 0, none⟩)])] 131)) (w4.heap.size + 1) 0 1000000000 ∧ Below w4.heap.size w4 ((w4.alloc (.cells #[(.func (.func 141) #[] #[.pointer (some ⟨p4, 0, none⟩), .pointer (some ⟨p5, 0, none⟩)])] 131)).alloc (.cells #[(.func (.func 141) #[] #[.pointer (some ⟨p6, 0, none⟩), .pointer (some ⟨p7, 0, none⟩)])] 131)) := by
 have hb : Below w4.heap.size w4 ((w4.alloc (.cells #[(.func (.func 141) #[] #[.pointer (some ⟨p4, 0, none⟩), .pointer (some ⟨p5, 0, none⟩)])] 131)).alloc (.cells #[(.func (.func 141) #[] #[.pointer (some ⟨p6, 0, none⟩), .pointer (some ⟨p7, 0, none⟩)])] 131)) := ((Below.refl _ _).alloc (Nat.le_refl _) _).alloc (by simp) _
 have h1 := Blk.made (w4.alloc (.cells #[(.func (.func 141) #[] #[.pointer (some ⟨p4, 0, none⟩), .pointer (some ⟨p5, 0, none⟩)])] 131)) #[(.func (.func 141) #[] #[.pointer (some ⟨p6, 0, none⟩), .pointer (some ⟨p7, 0, none⟩)])] 131
 simp only [World.size_alloc] at h1
 exact ⟨⟨_, low hc hb, _, _, rfl, low u2 hb, low u3 hb⟩, ⟨_, ((Blk.made w4 #[(.func (.func 141) #[] #[.pointer (some ⟨p4, 0, none⟩), .pointer (some ⟨p5, 0, none⟩)])] 131).alloc _).cell 0 rfl, _, _, rfl, low u4 hb, low u5 hb⟩, ⟨_, h1.cell 0 rfl, _, _, rfl, low u6 hb, low u7 hb⟩, hb⟩
set_option maxRecDepth 100000 in
set_option maxHeartbeats 2000000 in
theorem isInRange_any (v : Value) (m : Mc) (w : World) (h : Mach w v m) (hok : okM m) (h60 : m.2.length ≤ 60) (r : Bool) (hr : rangeB m = r) :
  Calls Tryz.prog 58 #[v] w fun e w' => e = .returned (.bool r) ∧ Below w.heap.size w w' := by
 subst hr
 obtain ⟨z, l⟩ := m
 obtain ⟨vs, rfl, hS⟩ := h
 obtain ⟨a, cap, rfl⟩ := hS.sl
 have HM : Hid (Mach w (.agg #[.int .i64 z, .slice a l.length cap]) (z, l)) := ⟨_, rfl, hS⟩
 have HK : Hid (okM (z, l)) := hok
 have H60 : Hid (l.length ≤ 60) := h60
 clear hS hok
 have hmf : ∀ (fn : Fn) (first cap : Array Value) (w : World), (Instr.makeFunc fn first cap).run Tryz.prog w = .ok (.func fn first cap) w := fun _ _ _ _ => rfl
 unfold rangeB
 simp only at h60 ⊢
 rw [all_both]
 generalize hr1 : inB z (-1) ((l.length : Int) - 1) = r1
 generalize hr2 : l.all (fun s => finB s.1) = r2
 generalize hr3 : l.all (fun s => s.2.all (arcB l.length)) = r3
 have H1 : Hid (inB z (-1) ((l.length : Int) - 1) = r1) := hr1
 have H2 : Hid (l.all (fun s => finB s.1) = r2) := hr2
 have H3 : Hid (l.all (fun s => s.2.all (arcB l.length)) = r3) := hr3
 clear hr1 hr2 hr3
 generalize hn : l.length = n at *
 have HN : Hid (l.length = n) := hn
 clear hn
 cases r1
 ·go_enter Tryz.func58, Tryz.ntmps58
  go_wp2_with (first
    | (go_at_call 105; (with_reducible refine (between_any (-1) ((n : Int) - 1) _).mono ?_); rintro e w1 ⟨p0, p1, rfl, x0, x1, hb⟩; obtain ⟨s1, k1, hb1⟩ := boxed hb (by simp); have c0 := k1.cell 0 (v := .int .i64 z) rfl; have c1 := k1.cell 1 (v := .slice a n cap) rfl; have HB1 : Hid (Below w.heap.size w w1) := hb1; clear k1 hb1 hb)
    | (go_at_call 105; (with_reducible refine (between_any 0 ((n : Int) - 1) _).mono ?_); rintro e w2 ⟨p2, p3, rfl, x2, x3, hb⟩; have y0 := low x0 hb; have y1 := low x1 hb; have d0 := low c0 hb; have d1 := low c1 hb; have HB2 : Hid (Below w.heap.size w w2) := HB1.out.trans (hb.mono HB1.out.size); clear hb)
    | (go_at_call 105; (with_reducible refine (between_any 0 1000 _).mono ?_); rintro e w3 ⟨p4, p5, rfl, x4, x5, hb⟩; have z0 := lowA y0 hb; have z1 := lowA y1 hb; have z2 := lowA x2 hb; have z3 := lowA x3 hb; have e0 := lowA d0 hb; have e1 := lowA d1 hb; have e2 := lowN hb; have HB3 : Hid (Below w.heap.size w w3) := (HB2.out.alloc HB2.out.size _).trans (hb.mono (by have h := HB2.out.size; simp; omega)); clear hb)
    | (go_at_call 105; (with_reducible refine (between_any 0 1000000000 _).mono ?_); rintro e w4 ⟨p6, p7, rfl, x6, x7, hb⟩; have u0 := low z0 hb; have u1 := low z1 hb; have u2 := low z2 hb; have u3 := low z3 hb; have u4 := low x4 hb; have u5 := low x5 hb; have f0 := low e0 hb; have f1 := low e1 hb; have f2 := low e2 hb; have HB4 : Hid (Below w.heap.size w w4) := HB3.out.trans (hb.mono HB3.out.size); have t0 : w.heap.size < w4.heap.size := World.block_lt_of_cell? _ _ f0; have t1 : p0 < w4.heap.size := World.block_lt_of_cell? _ _ u0; have t2 : p1 < w4.heap.size := World.block_lt_of_cell? _ _ u1; have t3 : p2 < w4.heap.size := World.block_lt_of_cell? _ _ u2; have t4 : p3 < w4.heap.size := World.block_lt_of_cell? _ _ u3; have t5 : p4 < w4.heap.size := World.block_lt_of_cell? _ _ u4; have t6 : p5 < w4.heap.size := World.block_lt_of_cell? _ _ u5; have t7 : p6 < w4.heap.size := World.block_lt_of_cell? _ _ x6; have t8 : p7 < w4.heap.size := World.block_lt_of_cell? _ _ x7; have t9 : w2.heap.size < w4.heap.size := World.block_lt_of_cell? _ _ f2; obtain ⟨vb1, vb2, vb3, hbu⟩ := varsB u2 u3 u4 u5 x6 x7 f2; have V1 : Hid (VarB ((w4.alloc (.cells #[(.func (.func 141) #[] #[.pointer (some ⟨p4, 0, none⟩), .pointer (some ⟨p5, 0, none⟩)])] 131)).alloc (.cells #[(.func (.func 141) #[] #[.pointer (some ⟨p6, 0, none⟩), .pointer (some ⟨p7, 0, none⟩)])] 131)) w2.heap.size 0 ((n : Int) - 1)) := vb1; have V2 : Hid (VarB ((w4.alloc (.cells #[(.func (.func 141) #[] #[.pointer (some ⟨p4, 0, none⟩), .pointer (some ⟨p5, 0, none⟩)])] 131)).alloc (.cells #[(.func (.func 141) #[] #[.pointer (some ⟨p6, 0, none⟩), .pointer (some ⟨p7, 0, none⟩)])] 131)) w4.heap.size 0 1000) := vb2; have V3 : Hid (VarB ((w4.alloc (.cells #[(.func (.func 141) #[] #[.pointer (some ⟨p4, 0, none⟩), .pointer (some ⟨p5, 0, none⟩)])] 131)).alloc (.cells #[(.func (.func 141) #[] #[.pointer (some ⟨p6, 0, none⟩), .pointer (some ⟨p7, 0, none⟩)])] 131)) (w4.heap.size + 1) 0 1000000000) := vb3; have HU : Hid (Below w.heap.size w ((w4.alloc (.cells #[(.func (.func 141) #[] #[.pointer (some ⟨p4, 0, none⟩), .pointer (some ⟨p5, 0, none⟩)])] 131)).alloc (.cells #[(.func (.func 141) #[] #[.pointer (some ⟨p6, 0, none⟩), .pointer (some ⟨p7, 0, none⟩)])] 131))) := HB4.out.trans (hbu.mono HB4.out.size); clear vb1 vb2 vb3 hbu hb y0 y1 z0 z1 z2 z3 d0 d1 e0 e1 e2 c0 c1 x0 x1 x2 x3 x4 x5)
    | (go_at_call 141; (with_reducible refine (between1_any _ _ _ _ _ _ (by go_cell) (by go_cell) _ H1.out).mono ?_); rintro e w' ⟨rfl, rfl⟩))
  go_ret
  exact ⟨rfl, by (have h := HB4.out); go_grown⟩
 cases r2
 ·go_enter Tryz.func58, Tryz.ntmps58
  go_wp2_with (first
    | (go_at_call 105; (with_reducible refine (between_any (-1) ((n : Int) - 1) _).mono ?_); rintro e w1 ⟨p0, p1, rfl, x0, x1, hb⟩; obtain ⟨s1, k1, hb1⟩ := boxed hb (by simp); have c0 := k1.cell 0 (v := .int .i64 z) rfl; have c1 := k1.cell 1 (v := .slice a n cap) rfl; have HB1 : Hid (Below w.heap.size w w1) := hb1; clear k1 hb1 hb)
    | (go_at_call 105; (with_reducible refine (between_any 0 ((n : Int) - 1) _).mono ?_); rintro e w2 ⟨p2, p3, rfl, x2, x3, hb⟩; have y0 := low x0 hb; have y1 := low x1 hb; have d0 := low c0 hb; have d1 := low c1 hb; have HB2 : Hid (Below w.heap.size w w2) := HB1.out.trans (hb.mono HB1.out.size); clear hb)
    | (go_at_call 105; (with_reducible refine (between_any 0 1000 _).mono ?_); rintro e w3 ⟨p4, p5, rfl, x4, x5, hb⟩; have z0 := lowA y0 hb; have z1 := lowA y1 hb; have z2 := lowA x2 hb; have z3 := lowA x3 hb; have e0 := lowA d0 hb; have e1 := lowA d1 hb; have e2 := lowN hb; have HB3 : Hid (Below w.heap.size w w3) := (HB2.out.alloc HB2.out.size _).trans (hb.mono (by have h := HB2.out.size; simp; omega)); clear hb)
    | (go_at_call 105; (with_reducible refine (between_any 0 1000000000 _).mono ?_); rintro e w4 ⟨p6, p7, rfl, x6, x7, hb⟩; have u0 := low z0 hb; have u1 := low z1 hb; have u2 := low z2 hb; have u3 := low z3 hb; have u4 := low x4 hb; have u5 := low x5 hb; have f0 := low e0 hb; have f1 := low e1 hb; have f2 := low e2 hb; have HB4 : Hid (Below w.heap.size w w4) := HB3.out.trans (hb.mono HB3.out.size); have t0 : w.heap.size < w4.heap.size := World.block_lt_of_cell? _ _ f0; have t1 : p0 < w4.heap.size := World.block_lt_of_cell? _ _ u0; have t2 : p1 < w4.heap.size := World.block_lt_of_cell? _ _ u1; have t3 : p2 < w4.heap.size := World.block_lt_of_cell? _ _ u2; have t4 : p3 < w4.heap.size := World.block_lt_of_cell? _ _ u3; have t5 : p4 < w4.heap.size := World.block_lt_of_cell? _ _ u4; have t6 : p5 < w4.heap.size := World.block_lt_of_cell? _ _ u5; have t7 : p6 < w4.heap.size := World.block_lt_of_cell? _ _ x6; have t8 : p7 < w4.heap.size := World.block_lt_of_cell? _ _ x7; have t9 : w2.heap.size < w4.heap.size := World.block_lt_of_cell? _ _ f2; obtain ⟨vb1, vb2, vb3, hbu⟩ := varsB u2 u3 u4 u5 x6 x7 f2; have V1 : Hid (VarB ((w4.alloc (.cells #[(.func (.func 141) #[] #[.pointer (some ⟨p4, 0, none⟩), .pointer (some ⟨p5, 0, none⟩)])] 131)).alloc (.cells #[(.func (.func 141) #[] #[.pointer (some ⟨p6, 0, none⟩), .pointer (some ⟨p7, 0, none⟩)])] 131)) w2.heap.size 0 ((n : Int) - 1)) := vb1; have V2 : Hid (VarB ((w4.alloc (.cells #[(.func (.func 141) #[] #[.pointer (some ⟨p4, 0, none⟩), .pointer (some ⟨p5, 0, none⟩)])] 131)).alloc (.cells #[(.func (.func 141) #[] #[.pointer (some ⟨p6, 0, none⟩), .pointer (some ⟨p7, 0, none⟩)])] 131)) w4.heap.size 0 1000) := vb2; have V3 : Hid (VarB ((w4.alloc (.cells #[(.func (.func 141) #[] #[.pointer (some ⟨p4, 0, none⟩), .pointer (some ⟨p5, 0, none⟩)])] 131)).alloc (.cells #[(.func (.func 141) #[] #[.pointer (some ⟨p6, 0, none⟩), .pointer (some ⟨p7, 0, none⟩)])] 131)) (w4.heap.size + 1) 0 1000000000) := vb3; have HU : Hid (Below w.heap.size w ((w4.alloc (.cells #[(.func (.func 141) #[] #[.pointer (some ⟨p4, 0, none⟩), .pointer (some ⟨p5, 0, none⟩)])] 131)).alloc (.cells #[(.func (.func 141) #[] #[.pointer (some ⟨p6, 0, none⟩), .pointer (some ⟨p7, 0, none⟩)])] 131))) := HB4.out.trans (hbu.mono HB4.out.size); clear vb1 vb2 vb3 hbu hb y0 y1 z0 z1 z2 z3 d0 d1 e0 e1 e2 c0 c1 x0 x1 x2 x3 x4 x5)
    | (go_at_call 141; (with_reducible refine (between1_any _ _ _ _ _ _ (by go_cell) (by go_cell) _ H1.out).mono ?_); rintro e w' ⟨rfl, rfl⟩)
      | (go_at_call 32; (with_reducible refine (everyState_any _ (z, l) _ (HM.out.later HU.out (Nat.le_refl _)) _ _ _ (mayEnd_ask _ l _ V3.out) (by show l.length ≤ 60; rw [HN.out]; exact H60.out) _ H2.out).mono ?_); rintro e w5 ⟨rfl, hb⟩; have HB5 : Hid (Below w.heap.size w w5) := HU.out.trans (hb.mono HU.out.size); clear hb))
  go_ret
  exact ⟨rfl, HB5.out⟩
 go_enter Tryz.func58, Tryz.ntmps58
 go_wp2_with (first
   | (go_at_call 105; (with_reducible refine (between_any (-1) ((n : Int) - 1) _).mono ?_); rintro e w1 ⟨p0, p1, rfl, x0, x1, hb⟩; obtain ⟨s1, k1, hb1⟩ := boxed hb (by simp); have c0 := k1.cell 0 (v := .int .i64 z) rfl; have c1 := k1.cell 1 (v := .slice a n cap) rfl; have HB1 : Hid (Below w.heap.size w w1) := hb1; clear k1 hb1 hb)
   | (go_at_call 105; (with_reducible refine (between_any 0 ((n : Int) - 1) _).mono ?_); rintro e w2 ⟨p2, p3, rfl, x2, x3, hb⟩; have y0 := low x0 hb; have y1 := low x1 hb; have d0 := low c0 hb; have d1 := low c1 hb; have HB2 : Hid (Below w.heap.size w w2) := HB1.out.trans (hb.mono HB1.out.size); clear hb)
   | (go_at_call 105; (with_reducible refine (between_any 0 1000 _).mono ?_); rintro e w3 ⟨p4, p5, rfl, x4, x5, hb⟩; have z0 := lowA y0 hb; have z1 := lowA y1 hb; have z2 := lowA x2 hb; have z3 := lowA x3 hb; have e0 := lowA d0 hb; have e1 := lowA d1 hb; have e2 := lowN hb; have HB3 : Hid (Below w.heap.size w w3) := (HB2.out.alloc HB2.out.size _).trans (hb.mono (by have h := HB2.out.size; simp; omega)); clear hb)
   | (go_at_call 105; (with_reducible refine (between_any 0 1000000000 _).mono ?_); rintro e w4 ⟨p6, p7, rfl, x6, x7, hb⟩; have u0 := low z0 hb; have u1 := low z1 hb; have u2 := low z2 hb; have u3 := low z3 hb; have u4 := low x4 hb; have u5 := low x5 hb; have f0 := low e0 hb; have f1 := low e1 hb; have f2 := low e2 hb; have HB4 : Hid (Below w.heap.size w w4) := HB3.out.trans (hb.mono HB3.out.size); have t0 : w.heap.size < w4.heap.size := World.block_lt_of_cell? _ _ f0; have t1 : p0 < w4.heap.size := World.block_lt_of_cell? _ _ u0; have t2 : p1 < w4.heap.size := World.block_lt_of_cell? _ _ u1; have t3 : p2 < w4.heap.size := World.block_lt_of_cell? _ _ u2; have t4 : p3 < w4.heap.size := World.block_lt_of_cell? _ _ u3; have t5 : p4 < w4.heap.size := World.block_lt_of_cell? _ _ u4; have t6 : p5 < w4.heap.size := World.block_lt_of_cell? _ _ u5; have t7 : p6 < w4.heap.size := World.block_lt_of_cell? _ _ x6; have t8 : p7 < w4.heap.size := World.block_lt_of_cell? _ _ x7; have t9 : w2.heap.size < w4.heap.size := World.block_lt_of_cell? _ _ f2; obtain ⟨vb1, vb2, vb3, hbu⟩ := varsB u2 u3 u4 u5 x6 x7 f2; have V1 : Hid (VarB ((w4.alloc (.cells #[(.func (.func 141) #[] #[.pointer (some ⟨p4, 0, none⟩), .pointer (some ⟨p5, 0, none⟩)])] 131)).alloc (.cells #[(.func (.func 141) #[] #[.pointer (some ⟨p6, 0, none⟩), .pointer (some ⟨p7, 0, none⟩)])] 131)) w2.heap.size 0 ((n : Int) - 1)) := vb1; have V2 : Hid (VarB ((w4.alloc (.cells #[(.func (.func 141) #[] #[.pointer (some ⟨p4, 0, none⟩), .pointer (some ⟨p5, 0, none⟩)])] 131)).alloc (.cells #[(.func (.func 141) #[] #[.pointer (some ⟨p6, 0, none⟩), .pointer (some ⟨p7, 0, none⟩)])] 131)) w4.heap.size 0 1000) := vb2; have V3 : Hid (VarB ((w4.alloc (.cells #[(.func (.func 141) #[] #[.pointer (some ⟨p4, 0, none⟩), .pointer (some ⟨p5, 0, none⟩)])] 131)).alloc (.cells #[(.func (.func 141) #[] #[.pointer (some ⟨p6, 0, none⟩), .pointer (some ⟨p7, 0, none⟩)])] 131)) (w4.heap.size + 1) 0 1000000000) := vb3; have HU : Hid (Below w.heap.size w ((w4.alloc (.cells #[(.func (.func 141) #[] #[.pointer (some ⟨p4, 0, none⟩), .pointer (some ⟨p5, 0, none⟩)])] 131)).alloc (.cells #[(.func (.func 141) #[] #[.pointer (some ⟨p6, 0, none⟩), .pointer (some ⟨p7, 0, none⟩)])] 131))) := HB4.out.trans (hbu.mono HB4.out.size); clear vb1 vb2 vb3 hbu hb y0 y1 z0 z1 z2 z3 d0 d1 e0 e1 e2 c0 c1 x0 x1 x2 x3 x4 x5)
   | (go_at_call 141; (with_reducible refine (between1_any _ _ _ _ _ _ (by go_cell) (by go_cell) _ H1.out).mono ?_); rintro e w' ⟨rfl, rfl⟩)
     | (go_at_call 32; (with_reducible refine (everyState_any _ (z, l) _ (HM.out.later HU.out (Nat.le_refl _)) _ _ _ (mayEnd_ask _ l _ V3.out) (by show l.length ≤ 60; rw [HN.out]; exact H60.out) _ H2.out).mono ?_); rintro e w5 ⟨rfl, hb⟩; have HB5 : Hid (Below w.heap.size w w5) := HU.out.trans (hb.mono HU.out.size); have r0 := low (low (low f0 ((Below.refl _ _).alloc (Nat.le_refl _) (.cells #[(.func (.func 141) #[] #[.pointer (some ⟨p4, 0, none⟩), .pointer (some ⟨p5, 0, none⟩)])] 131))) ((Below.refl _ _).alloc (Nat.le_refl _) _)) hb; have r1 := low (low (low f1 ((Below.refl _ _).alloc (Nat.le_refl _) (.cells #[(.func (.func 141) #[] #[.pointer (some ⟨p4, 0, none⟩), .pointer (some ⟨p5, 0, none⟩)])] 131))) ((Below.refl _ _).alloc (Nat.le_refl _) _)) hb; have W1 : Hid (VarB w5 w2.heap.size 0 ((n : Int) - 1)) := V1.out.later hb (Nat.le_refl _); have W2 : Hid (VarB w5 w4.heap.size 0 1000) := V2.out.later hb (Nat.le_refl _); have W3 : Hid (VarB w5 (w4.heap.size + 1) 0 1000000000) := V3.out.later hb (Nat.le_refl _); clear hb)
   | (go_at_call 29; (with_reducible refine (everyArc_any _ (z, l) _ (HM.out.later HB5.out (Nat.le_refl _)) _ _ _ (mayBe_ask _ _ _ n _ W2.out W3.out W1.out) HK.out (by show l.length ≤ 60; rw [HN.out]; exact H60.out) _ H3.out).mono ?_); rintro e w6 ⟨rfl, hb⟩; have HB6 : Hid (Below w.heap.size w w6) := HB5.out.trans (hb.mono HB5.out.size); clear hb))
 go_ret
 exact ⟨rfl, HB6.out⟩
theorem coreCheck_any (v : Value) (m : Mc) (w : World) (h : Mach w v m) (hok : okM m) (r : Int) (hr : faultM m = r) :
  Calls Tryz.prog 28 #[v] w fun e w' => e = .returned (.int .i64 r) ∧ Below w.heap.size w w' := by
 subst hr
 obtain ⟨z, l⟩ := m
 obtain ⟨vs, rfl, hS⟩ := h
 obtain ⟨a, cap, rfl⟩ := hS.sl
 have HM : Hid (Mach w (.agg #[.int .i64 z, .slice a l.length cap]) (z, l)) := ⟨_, rfl, hS⟩
 have HK : Hid (okM (z, l)) := hok
 have hnot : ∀ (x : Bool) (w : World), (Op.unary .not (.bool x)).run Tryz.prog w = .ok (.bool (!x)) w := fun _ _ => rfl
 clear hS hok
 simp only
 by_cases h60 : l.length ≤ 60
 ·have H60 : Hid (l.length ≤ 60) := h60
  by_cases h400 : arcN l ≤ 400
  ·have hsz : sizeB (z, l) = true := by simp [sizeB, h60, h400]
   generalize hr : rangeB (z, l) = r
   have HR : Hid (rangeB (z, l) = r) := hr
   have HF : Hid ((if r = true then (0 : Int) else 2) = faultM (z, l)) := by show _ = _; unfold faultM; rw [if_pos hsz, hr]
   clear hr hsz
   generalize hq : arcN l = q at *
   have HQ : Hid (arcN l = q) := hq
   clear hq
   have h4 : ¬ (400 : Int) < (q : Int) := by omega
   generalize hn : l.length = n at *
   have HN : Hid (l.length = n) := hn
   clear hn
   have h6 : ¬ (60 : Int) < (n : Int) := by omega
   cases r
   all_goals
    go_enter Tryz.func28, Tryz.ntmps28
    go_wp2_with (first
     | (go_at_call 46; (with_reducible refine (arcsOf_any _ (z, l) _ (HM.out.later (B := w.heap.size) (by go_grown) (Nat.le_refl _)) HK.out (by show l.length ≤ 60; rw [HN.out]; exact H60.out) q HQ.out).mono ?_); rintro e w1 ⟨rfl, hb⟩; obtain ⟨s1, b1, hb1⟩ := boxed hb (by simp); have c0 := b1.cell 0 (v := .int .i64 z) rfl; have c1 := b1.cell 1 (v := .slice a n cap) rfl; have HB : Hid (Below w.heap.size w w1) := hb1; clear b1 hb1 hb)
     | (go_at_call 58; (with_reducible refine (isInRange_any _ (z, l) _ (HM.out.later HB.out (Nat.le_refl _)) HK.out (by show l.length ≤ 60; rw [HN.out]; exact H60.out) _ HR.out).mono ?_); rintro e w2 ⟨rfl, hb⟩; have HB2 : Hid (Below w.heap.size w w2) := HB.out.trans (hb.mono HB.out.size); clear hb))
    go_ret
    exact ⟨ret_intK HF.out, HB2.out⟩
  ·have HF : Hid (faultM (z, l) = 1) := faultM_size (by simp [sizeB]; omega)
   generalize hq : arcN l = q at *
   have HQ : Hid (arcN l = q) := hq
   clear hq
   have h4 : (400 : Int) < (q : Int) := by omega
   generalize hn : l.length = n at *
   have HN : Hid (l.length = n) := hn
   clear hn
   have h6 : ¬ (60 : Int) < (n : Int) := by omega
   go_enter Tryz.func28, Tryz.ntmps28
   go_wp2_with (first
     | (go_at_call 46; (with_reducible refine (arcsOf_any _ (z, l) _ (HM.out.later (B := w.heap.size) (by go_grown) (Nat.le_refl _)) HK.out (by show l.length ≤ 60; rw [HN.out]; exact H60.out) q HQ.out).mono ?_); rintro e w1 ⟨rfl, hb⟩; obtain ⟨s1, b1, hb1⟩ := boxed hb (by simp); have HB : Hid (Below w.heap.size w w1) := hb1; clear b1 hb1 hb))
   go_ret
   exact ⟨ret_intK HF.out.symm, HB.out⟩
 ·have HF : Hid (faultM (z, l) = 1) := faultM_size (by simp [sizeB]; omega)
  have h6 : (60 : Int) < (l.length : Int) := by omega
  go_enter Tryz.func28, Tryz.ntmps28
  go_wp2
  go_ret
  exact ⟨ret_intK HF.out.symm, by go_grown⟩
end Go.Proofs.YtfhjncpakgailaaGreatDoor.Wt
namespace Go.Proofs.YtfhjncpakgailaaGreatDoor.Wt
open Go.ChangeShapes Go.WideShapes Go.ChangeAt Go.RowKit
open Go.Proofs.YtfhjncpakgailaaGreatDoor.Pl
set_option linter.unusedVariables false
set_option linter.unusedSimpArgs false
def allE (m : Mc) (ws : List (List Int)) : Int := if faultM m ≠ 0 then faultM m else wdsE ws
set_option maxRecDepth 100000 in
set_option maxHeartbeats 1600000 in
theorem checkAll_any (v : Value) (m : Mc) (b : Nat) (vws : List Value) (ws : List (List Int)) (n : Nat) (w : World) (h : Mach w v m) (hok : okM m) (hw : WdsAt w b vws ws) (hn : ws.length = n) (hn2 : n ≤ 10) (r : Int) (hr : allE m ws = r) :
  Calls Tryz.prog 62 #[v, .slice (some ⟨b, 0, none⟩) n n] w fun e w' => e = .returned (.int .i64 r) ∧ Below w.heap.size w w' := by
 obtain ⟨z, l⟩ := m
 have HM : Hid (Mach w v (z, l)) := h
 obtain ⟨vs, rfl, hS⟩ := h
 obtain ⟨a, cap, rfl⟩ := hS.sl
 have HCK : Hid (∀ W, Below w.heap.size w W → Calls Tryz.prog 28 #[.agg #[.int .i64 z, .slice a l.length cap]] W fun e w' => e = .returned (.int .i64 (faultM (z, l))) ∧ Below W.heap.size W w') := fun W hW => coreCheck_any _ (z, l) W (HM.out.later hW (Nat.le_refl _)) hok _ rfl
 have HCW : Hid (∀ W, Below w.heap.size w W → Calls Tryz.prog 110 #[.slice (some ⟨b, 0, none⟩) n n] W fun e w' => e = .returned (.int .i64 (wdsE ws)) ∧ W = w') := fun W hW => checkWords_any b vws ws n W (hw.later hW (Nat.le_refl _)) hn hn2
 unfold allE at hr
 clear hS hok hw hn HM
 generalize l.length = ln at *
 generalize faultM (z, l) = f at *
 generalize wdsE ws = e at *
 by_cases hf : f = 0
 ·rw [if_neg (by simp [hf])] at hr
  subst hr
  subst hf
  go_enter Tryz.func62, Tryz.ntmps62
  go_wp2_with (first
   | (go_at_call 28; (with_reducible refine (HCK.out _ (by go_grown)).mono ?_); rintro e1 w1 ⟨rfl, hb⟩; obtain ⟨s1, b1, hb1⟩ := boxed hb (by simp); have HB1 := hidP hb1; clear hb b1 hb1)
   | (go_at_call 110; (with_reducible refine (HCW.out _ HB1.out).mono ?_); rintro e1 w2 ⟨rfl, rfl⟩))
  go_ret
  exact ⟨rfl, HB1.out⟩
 ·rw [if_pos hf] at hr
  subst hr
  go_enter Tryz.func62, Tryz.ntmps62
  go_wp2_with (first
   | (go_at_call 28; (with_reducible refine (HCK.out _ (by go_grown)).mono ?_); rintro e1 w1 ⟨rfl, hb⟩; obtain ⟨s1, b1, hb1⟩ := boxed hb (by simp); have HB1 := hidP hb1; clear hb b1 hb1))
  go_ret
  exact ⟨rfl, HB1.out⟩
theorem words2 {w : World} {vx vy : Value} {x y : List Int} {b : Nat} (hb : Blk w b #[vx, vy] 25) (nx : Nums w vx x) (ny : Nums w vy y) : WdsAt w b [vx, vy] [x, y] := by
 refine ⟨hb, rfl, fun j hj => ?_⟩
 have : j = 0 ∨ j = 1 := by simp at hj; omega
 rcases this with rfl | rfl
 ·exact nx
 ·exact ny
theorem cro_short {x y : List Int} (h : croE x y = 0) : x.length ≤ 12 ∧ y.length ≤ 12 := by
 have hx0 : wrdE x = 0 := by
  by_cases g : wrdE x = 0
  ·exact g
  ·unfold croE at h; rw [if_pos g] at h; exact h
 have hy0 : wrdE y = 0 := by unfold croE at h; rw [if_neg (by simp [hx0])] at h; exact h
 exact ⟨(wrd_parts hx0).1, (wrd_parts hy0).1⟩
set_option maxRecDepth 100000 in
set_option maxHeartbeats 1600000 in
theorem weighP_any (v vx vy : Value) (m : Mc) (x y : List Int) (w : World) (h : Mach w v m) (hok : okM m) (nx : Nums w vx x) (ny : Nums w vy y) :
  Calls Tryz.prog 38 #[v, vx, vy] w fun e w' => ∃ n ec : Int, e = .returned (.tuple #[.int .i64 n, .int .i64 ec]) ∧ WgR (Costs m x y) (wghE2 m x y) n ec ∧ Below w.heap.size w w' := by
 obtain ⟨z, l⟩ := m
 have HM : Hid (Mach w v (z, l)) := h
 obtain ⟨vs, rfl, hS⟩ := h
 obtain ⟨a, cap, rfl⟩ := hS.sl
 obtain ⟨ax, cx, hvx, _⟩ := nx.get
 obtain ⟨ay, cy, hvy, _⟩ := ny.get
 have HCA : Hid (∀ W b, Below w.heap.size w W → Blk W b #[vx, vy] 25 → Calls Tryz.prog 62 #[.agg #[.int .i64 z, .slice a l.length cap], .slice (some ⟨b, 0, none⟩) 2 2] W fun e w' => e = .returned (.int .i64 (wghE2 (z, l) x y)) ∧ Below W.heap.size W w') := fun W b hW hb => checkAll_any _ (z, l) b [vx, vy] [x, y] 2 W (HM.out.later hW (Nat.le_refl _)) hok (words2 hb (nx.later hW (Nat.le_refl _)) (ny.later hW (Nat.le_refl _))) rfl (by omega) _ (by unfold allE wghE2; rw [wds_two])
 have HCO : Hid (wghE2 (z, l) x y = 0 → ∀ W, Below w.heap.size w W → Calls Tryz.prog 63 #[.agg #[.int .i64 z, .slice a l.length cap], vx, vy] W fun e w' => ∃ n ec : Int, e = .returned (.tuple #[.int .i64 n, .int .i64 ec]) ∧ WghAns (Costs (z, l) x y) n ec ∧ Below W.heap.size W w') := fun h0 W hW => by
  unfold wghE2 at h0
  have hf : faultM (z, l) = 0 := by
   by_cases g : faultM (z, l) = 0
   ·exact g
   ·rw [if_pos g] at h0; exact h0
  rw [if_neg (by simp [hf])] at h0
  obtain ⟨q1, q2⟩ := cro_short h0
  exact costP_any _ vx vy (z, l) x y W (HM.out.later hW (Nat.le_refl _)) hf (nx.later hW (Nat.le_refl _)) (ny.later hW (Nat.le_refl _)) q1 q2
 have k1 := Blk.made (w.alloc (.cells #[.int .i64 z, .slice a l.length cap] 29)) #[vx, vy] 25
 have k2 : Below w.heap.size w ((w.alloc (.cells #[.int .i64 z, .slice a l.length cap] 29)).alloc (.cells #[vx, vy] 25)) := ((Below.refl w.heap.size w).alloc (Nat.le_refl _) _).alloc (by simp) _
 simp only [World.size_alloc] at k1
 have HC0 := hidP (HCA.out _ _ k2 k1)
 clear hS hok nx ny HM k1 k2 HCA
 generalize l.length = ln at *
 unfold WgR
 simp only
 generalize wghE2 (z, l) x y = r at *
 generalize Costs (z, l) x y = P at *
 subst hvx
 subst hvy
 by_cases hr : r = 0
 ·subst hr
  have HCO2 := hidP (HCO.out rfl)
  simp only [if_true]
  clear HCO
  go_enter Tryz.func38, Tryz.ntmps38
  go_wp2_with (first
   | (go_at_call 62; (with_reducible refine HC0.out.mono ?_); rintro e1 w1 ⟨rfl, hb⟩; obtain ⟨s1, b1, _, hb1⟩ := boxedTwo hb (by simp); have HB1 := hidP hb1; have c0 := b1.cell 0 (v := .int .i64 z) rfl; have c1 := b1.cell 1 (v := .slice a ln cap) rfl; clear hb b1 hb1)
   | (go_at_call 63; (with_reducible refine (HCO2.out _ HB1.out).mono ?_); rintro e1 w2 ⟨n, ec, rfl, ha, hb2⟩; have HA := hidP ha; have HB2 := hidP (HB1.out.trans (hb2.mono HB1.out.size)); clear ha hb2))
  exact bodyPost_ret (v := .tuple #[.int .i64 n, .int .i64 ec]) (by simp [results, Tryz.results38, go_sem, *]) rfl ⟨n, ec, rfl, HA.out, HB2.out⟩
 ·simp only [if_neg hr]
  clear HCO
  go_enter Tryz.func38, Tryz.ntmps38
  go_wp2_with (first
   | (go_at_call 62; (with_reducible refine HC0.out.mono ?_); rintro e1 w1 ⟨rfl, hb⟩; obtain ⟨s1, b1, _, hb1⟩ := boxedTwo hb (by simp); have HB1 := hidP hb1; clear hb b1 hb1))
  exact bodyPost_ret (v := .tuple #[.int .i64 0, .int .i64 r]) (by simp [results, Tryz.results38, go_sem, *]) rfl ⟨0, r, rfl, ⟨rfl, rfl⟩, HB1.out⟩
theorem cost_any (v vx vy : Value) (m : Mc) (x y : List Int) (w : World) (h : Mach w v m) (hok : okM m) (hr : faultM m = 0) (hc : CheapL m.2) (nx : Nums w vx x) (ny : Nums w vy y) (ex : wrdE x = 0) (ey : wrdE y = 0) :
  Calls Tryz.prog 13 #[v, vx, vy] w fun e w' => ∃ n : Int, e = .returned (.int .i64 n) ∧ CstIs (Costs m x y) n ∧ Below w.heap.size w w' := by
 have HW : Hid (∀ W, Below w.heap.size w W → Calls Tryz.prog 38 #[v, vx, vy] W fun e w' => ∃ n : Int, e = .returned (.tuple #[.int .i64 n, .int .i64 0]) ∧ CstIs (Costs m x y) n ∧ Below W.heap.size W w') := fun W hW => (weighP_any v vx vy m x y W (h.later hW (Nat.le_refl _)) hok (nx.later hW (Nat.le_refl _)) (ny.later hW (Nat.le_refl _))).mono fun e w' ⟨n, ec, he, ha, hb⟩ => by
  have hE : wghE2 m x y = 0 := by unfold wghE2; rw [if_neg (by simp [hr])]; unfold croE; rw [if_neg (by simp [ex])]; exact ey
  unfold WgR at ha
  rw [if_pos hE] at ha
  obtain ⟨h1, h2⟩ := cst_of ha (costs_bound hr hc (wrd_parts ex).1 (wrd_parts ey).1)
  subst h1
  exact ⟨n, he, h2, hb⟩
 obtain ⟨z, l⟩ := m
 obtain ⟨vs, rfl, hS⟩ := h
 obtain ⟨a, cap, rfl⟩ := hS.sl
 obtain ⟨ax, cx, rfl, _⟩ := nx.get
 obtain ⟨ay, cy, rfl, _⟩ := ny.get
 clear hS hok hr hc nx ny ex ey
 generalize (fun n => CstIs (Costs (z, l) x y) n) = Q at *
 go_enter Tryz.func13, Tryz.ntmps13
 go_wp2_with (first
  | (go_at_call 38; (with_reducible refine (HW.out _ (by go_grown)).mono ?_); rintro e w1 ⟨n, rfl, hq, hb⟩; have HQ := hidP hq; have HB1 : Hid (Below w.heap.size w w1) := (boxed hb (by simp)).2.2; clear hq hb))
 go_ret
 exact ⟨n, rfl, HQ.out, HB1.out⟩
end Go.Proofs.YtfhjncpakgailaaGreatDoor.Wt
namespace Go.Proofs.YtfhjncpakgailaaGreatDoor.Wt
open Go.ChangeShapes Go.WideShapes Go.ChangeAt Go.RowKit
open Go.Proofs.YtfhjncpakgailaaGreatDoor.Pl
set_option linter.unusedVariables false
def IsRow (k : IntKind) (w : World) (a : Option Addr) (len cap : Nat) (zs : List Int) : Prop :=
 (a = none ∧ len = 0 ∧ cap = 0 ∧ zs = []) ∨
 ∃ x, a = some x ∧ len ≤ cap ∧ cap ≤ maxLen ∧ zs.length = cap ∧ (∀ i, i < zs.length → w.cell? (x.add i) = some (.int k (zs.getD i 0))) ∧ ∀ n ∈ zs, (Lit.int k n).wf = true
end Go.Proofs.YtfhjncpakgailaaGreatDoor.Wt
namespace Go.Proofs.YtfhjncpakgailaaGreatDoor.Wt
open Go.ChangeShapes Go.WideShapes Go.ChangeAt Go.RowKit
open Go.Proofs.YtfhjncpakgailaaGreatDoor.Pl
set_option linter.unusedVariables false
set_option linter.unusedSimpArgs false
theorem row_nums {w : World} {a : Option Addr} {len cap : Nat} {zs : List Int} (h : IsRow .i64 w a len cap zs) : Nums w (.slice a len cap) (zs.take len) ∧ (zs.take len).length = len ∧ len ≤ cap := by
  rcases h with ⟨rfl, rfl, rfl, rfl⟩ | ⟨x, rfl, h1, h2, h3, h4, h5⟩
  · exact ⟨.inl ⟨rfl, rfl⟩, rfl, Nat.le_refl _⟩
  · have hl : (zs.take len).length = len := by rw [List.length_take]; omega
    refine ⟨.inr ⟨x, cap, by rw [hl], fun j hj i u hu => ?_⟩, hl, h1⟩
    match i, hu with
    | 0, hu =>
      simp [encI1] at hu
      subst hu
      rw [hl] at hj
      rw [Nat.mul_one, Nat.add_zero, h4 j (by omega)]
      have h6 : j < zs.length := by omega
      simp [el, List.getElem?_take, hj, h6, List.getD_eq_getElem?_getD]
    | i + 1, hu => simp [encI1] at hu
theorem right_ok {m : Mc} (h : faultM m = 0) : okM m := by
 have h1 := right_size (z := m.1) (l := m.2) h
 exact small_ok (by omega) (by omega)
theorem row_wf {w : World} {a : Option Addr} {len cap : Nat} {zs : List Int} (h : IsRow .i64 w a len cap zs) : ∀ n ∈ zs.take len, (Lit.int .i64 n).wf = true := by
 rcases h with ⟨rfl, rfl, rfl, rfl⟩ | ⟨x, rfl, h1, h2, h3, h4, h5⟩
 ·intro n hn; simp at hn
 ·intro n hn
  exact h5 n (List.mem_of_mem_take hn)
end Go.Proofs.YtfhjncpakgailaaGreatDoor.Wt
