/- What a machine is like, by the reference. -/
import Derived.Test.YthajkkobgfighaaGreatDoorJaK
import Derived.Test.YthajkkobgfighaaGreatDoorJaC
import Derived.Deep.DeepCutAuto
import Derived.Deep.CutRange
namespace Go.Proofs.YthajkkobgfighaaGreatDoor.Wt
open Go.ChangeShapes Go.WideShapes Go.ChangeAt Go.RowKit
open Go.Proofs.YthajkkobgfighaaGreatDoor.Pl
set_option linter.unusedVariables false
set_option linter.unusedSimpArgs false
theorem madeAt (w : World) (a : Addr) (v : Value) (cs : Array Value) (t : TypeId) : Blk ((w.setCell a v).alloc (.cells cs t)) w.heap.size cs t := by
 have h := Blk.made (w.setCell a v) cs t
 simpa using h
theorem map_ne {w : World} {b1 b2 : Nat} {c1 c2 : Array Value} {t1 t2 : TypeId} (h1 : Hid (Blk w b1 c1 t1)) (h2 : Hid (Blk w b2 c2 t2)) (hne : t1 ≠ t2 := by decide) : b2 ≠ (⟨b1, 0, none⟩ : Addr).block := by
 intro e
 have e' : b2 = b1 := e
 subst e'
 have h3 := h1.out
 have h4 := h2.out
 unfold Blk at h3 h4
 rw [h3] at h4
 injection h4 with h5
 injection h5 with _ h6 _
 exact hne h6
def flags (a f c s p : Bool) : Array Value := #[.bool a, .bool f, .bool c, .bool s, .bool p]
theorem fA_succ {l : List St} {i : Nat} (h : i < l.length) : fA l (i + 1) = (fA l i && (el l i).2.all accA) := all_take_succ h _
theorem fF_succ {l : List St} {i : Nat} (h : i < l.length) : fF l (i + 1) = (fF l i && (el l i).2.all fullA) := all_take_succ h _
theorem fC_succ {l : List St} {i : Nat} (h : i < l.length) : fC l (i + 1) = (fC l i && ((el l i).2.all fullA && onceB (el l i).2)) := all_take_succ h _
theorem fS_succ {l : List St} {i : Nat} (h : i < l.length) : fS l (i + 1) = (fS l i && ordB (el l i).2) := all_take_succ h _
theorem fP_succ {l : List St} {i : Nat} (h : i < l.length) : fP l (i + 1) = (fP l i && (freeS (el l i) && (el l i).2.all freeW)) := all_take_succ h _
def gA (a : Bool) (l : List Ar) (k : Nat) : Bool := a && (l.take k).all accA
def gF (a : Bool) (l : List Ar) (k : Nat) : Bool := a && (l.take k).all fullA
def gC (a : Bool) (l : List Ar) (k : Nat) : Bool := a && ((l.take k).all fullA && onceTo l k)
def gS (a : Bool) (l : List Ar) (k : Nat) : Bool := a && ordTo l k
def gP (a : Bool) (l : List Ar) (k : Nat) : Bool := a && (l.take k).all freeW
theorem gA_succ {a : Bool} {l : List Ar} {k : Nat} (h : k < l.length) : gA a l (k + 1) = (gA a l k && accA (el l k)) := by unfold gA; rw [all_take_succ h, Bool.and_assoc]
theorem gF_succ {a : Bool} {l : List Ar} {k : Nat} (h : k < l.length) : gF a l (k + 1) = (gF a l k && fullA (el l k)) := by unfold gF; rw [all_take_succ h, Bool.and_assoc]
theorem gP_succ {a : Bool} {l : List Ar} {k : Nat} (h : k < l.length) : gP a l (k + 1) = (gP a l k && freeW (el l k)) := by unfold gP; rw [all_take_succ h, Bool.and_assoc]
theorem gC_succ {a : Bool} {l : List Ar} {k : Nat} (h : k < l.length) : gC a l (k + 1) = ((gC a l k && fullA (el l k)) && rowC l k k) := by
 unfold gC
 rw [all_take_succ h, onceTo_succ]
 cases a <;> cases (l.take k).all fullA <;> cases fullA (el l k) <;> cases onceTo l k <;> cases rowC l k k <;> rfl
theorem gS_succ {a : Bool} {l : List Ar} {k : Nat} : gS a l (k + 1) = (gS a l k && rowS l k k) := by unfold gS; rw [ordTo_succ, Bool.and_assoc]
theorem g_zero (a : Bool) (l : List Ar) : gA a l 0 = a ∧ gF a l 0 = a ∧ gC a l 0 = a ∧ gS a l 0 = a ∧ gP a l 0 = a := by simp [gA, gF, gC, gS, gP, onceTo, ordTo]
theorem f_zero (l : List St) : fA l 0 = true ∧ fF l 0 = true ∧ fC l 0 = true ∧ fS l 0 = true ∧ fP l 0 = true := by simp [fA, fF, fC, fS, fP]
set_option maxRecDepth 100000 in
set_option maxHeartbeats 4000000 in
theorem like_ok (z : Int) (a : Option Addr) (cap : Nat) (l : List St) (w : World) (hM : Mach w (.agg #[.int .i64 z, .slice a l.length cap]) (z, l)) (hok : okM (z, l)) (hr : faultM (z, l) = 0)
  (hc : ∀ j, j < l.length → ∃ b off va, a = some ⟨b, off, none⟩ ∧ b < w.heap.size ∧ w.cell? ⟨b, off + j * 2, none⟩ = some (.int .i64 (el l j).1) ∧ w.cell? ⟨b, off + j * 2 + 1, none⟩ = some va ∧ Arcs w va (el l j).2) :
  Calls Tryz.prog 13 #[.agg #[.int .i64 z, .slice a l.length cap]] w fun e w' => e = .returned (.tuple #[.agg (flags (fA l l.length) (fF l l.length) (fC l l.length) (fS l l.length) (fP l l.length)), .int .i64 0]) ∧ Below w.heap.size w w' := by
 have HM : Hid (Mach w (.agg #[.int .i64 z, .slice a l.length cap]) (z, l)) := hM
 have HK : Hid (okM (z, l)) := hok
 have HF0 : Hid (faultM (z, l) = 0) := hr
 have HC : Hid (∀ j, j < l.length → ∃ b off va, a = some ⟨b, off, none⟩ ∧ b < w.heap.size ∧ w.cell? ⟨b, off + j * 2, none⟩ = some (.int .i64 (el l j).1) ∧ w.cell? ⟨b, off + j * 2 + 1, none⟩ = some va ∧ Arcs w va (el l j).2) := hc
 have h60 := (right_size hr).1
 have HL : Hid (∀ j, j < l.length → (el l j).2.length ≤ 4398046511104) := fun j hj => by have := hok.2 j hj; simp only at this; omega
 clear hM hok hr hc
 generalize hn : l.length = n at *
 have HN : Hid (l.length = n) := hn
 clear hn
 go_enter Tryz.func13, Tryz.ntmps13
 go_wp2_with (first
  | (go_at_call 30; (with_reducible refine (fault_any _ (z, l) _ (HM.out.later (B := w.heap.size) (by go_grown) (Nat.le_refl _)) HK.out _ HF0.out).mono ?_); rintro e w1 ⟨rfl, hb⟩; obtain ⟨s1, k0, k1, hb1⟩ := boxed2 hb (by simp); have HB1 : Hid (Below w.heap.size w w1) := hb1; have K0 : Hid (Blk w1 w.heap.size #[.int .i64 z, .slice a n cap] 24) := k0; have K1 : Hid (Blk w1 (w.heap.size + 1) #[.bool false, .bool false, .bool false, .bool false, .bool false] 41) := k1; clear hb hb1 k0 k1))
 go_loopw [6] (fun i wr => ∃ k : Nat, k ≤ n ∧ i = .int .i64 k ∧ Hid (Below w1.heap.size w1 wr) ∧ Hid (Blk wr w1.heap.size (flags (fA l k) (fF l k) (fC l k) (fS l k) (fP l k)) 41)) (fun i _ => n - (intOf i).toNat)
 case atStart =>
  refine ⟨0, Nat.zero_le _, rfl, ?_, ?_⟩
  ·show Below _ _ _; go_grown
  ·obtain ⟨e1, e2, e3, e4, e5⟩ := f_zero l
   rw [e1, e2, e3, e4, e5]
   exact Blk.made w1 _ _
 case round =>
  obtain ⟨i, hi, rfl, hb, hF⟩ := hrel
  have kb := K0.out.below hb.out (by omega)
  have c1 := kb.cell 1 (v := .slice a n cap) rfl
  by_cases hlt : i < n
  ·obtain ⟨b, off, va, rfl, hbl, g0, g1, gA0⟩ := HC.out i hlt
   have hbw : Below w.heap.size w wr := HB1.out.trans (hb.out.mono HB1.out.size)
   have g0 := (hbw.cell (p := ⟨b, off + i * 2, none⟩) hbl).trans g0
   have g1 := (hbw.cell (p := ⟨b, off + i * 2 + 1, none⟩) hbl).trans g1
   obtain ⟨a2, cap2, rfl, hc2⟩ := gA0.get
   have HC2 : Hid (∀ j, j < (el l i).2.length → ∃ b off, a2 = some ⟨b, off, none⟩ ∧ b < w.heap.size ∧ w.cell? ⟨b, off + j * 4, none⟩ = some (.int .i64 (el (el l i).2 j).1) ∧ w.cell? ⟨b, off + j * 4 + 1, none⟩ = some (.int .i64 (el (el l i).2 j).2.1) ∧ w.cell? ⟨b, off + j * 4 + 2, none⟩ = some (.int .i64 (el (el l i).2 j).2.2.1) ∧ w.cell? ⟨b, off + j * 4 + 3, none⟩ = some (.int .i64 (el (el l i).2 j).2.2.2)) := hc2
   have hA := HL.out i hlt
   have HE : Hid (fA l (i + 1) = gA (fA l i) (el l i).2 (el l i).2.length ∧ fF l (i + 1) = gF (fF l i) (el l i).2 (el l i).2.length ∧ fC l (i + 1) = gC (fC l i) (el l i).2 (el l i).2.length ∧ fS l (i + 1) = gS (fS l i) (el l i).2 (el l i).2.length ∧ fP l (i + 1) = gP (fP l i && freeS (el l i)) (el l i).2 (el l i).2.length) := by
    have h : i < l.length := by rw [HN.out]; exact hlt
    unfold gA gF gC gS gP
    rw [fA_succ h, fF_succ h, fC_succ h, fS_succ h, fP_succ h, List.take_length, onceTo_all, ordTo_all, Bool.and_assoc]
    exact ⟨rfl, rfl, rfl, rfl, rfl⟩
   generalize fA l i = v1 at *
   generalize fF l i = v2 at *
   generalize fC l i = v3 at *
   generalize fS l i = v4 at *
   generalize fP l i = v5 at *
   generalize el l i = st at *
   obtain ⟨f, ar⟩ := st
   simp only at g0 g1 HC2 hA HE
   clear hc2 gA0 kb
   have hlP := hF.out.lt
   have HSt : Hid (Blk (wr.alloc (.cells #[.int .i64 f, .slice a2 ar.length cap2] 33)) wr.heap.size #[.int .i64 f, .slice a2 ar.length cap2] 33) := Blk.made wr _ _
   generalize hm : ar.length = m at *
   have HMm : Hid (ar.length = m) := hm
   clear hm
   go_upto_region 9 with fail
   go_cut [38] (fun t wx => t = .bool (!freeS (f, ar)) ∧ wx = wr.alloc (.cells #[.int .i64 f, .slice a2 m cap2] 33))
   case first =>
    by_cases e0 : f = 0
    ·subst e0
     go_wp2
     go_meet
     case rel => exact ⟨by simp [freeS], rfl⟩
    ·have e0' : (f != 0) = true := by simpa using e0
     by_cases e1 : f = 1000000001
     ·subst e1
      go_wp2
      go_meet
      case rel => exact ⟨by simp [freeS], rfl⟩
     ·have e1' : (f != 1000000001) = true := by simpa using e1
      go_wp2
      go_meet
      case rel => exact ⟨by simp [freeS, e0, e1], rfl⟩
   case rest =>
    obtain ⟨rfl, rfl⟩ := hcut
    have HFA : Hid (Blk (wr.alloc (.cells #[.int .i64 f, .slice a2 m cap2] 33)) w1.heap.size (flags v1 v2 v3 v4 v5) 41) := hF.out.alloc _
    have q4 := HFA.out.cell 4 (v := .bool v5) rfl
    have z4 := HFA.out.fz 4
    generalize hfs : freeS (f, ar) = fr at *
    go_upto_if 38 with fail
    go_cut [] (fun wx => Hid (Blk wx w1.heap.size (flags v1 v2 v3 v4 (v5 && fr)) 41) ∧ Hid (Blk wx wr.heap.size #[.int .i64 f, .slice a2 m cap2] 33) ∧ Hid (Below w1.heap.size w1 wx))
    case first =>
     cases fr
     ·go_wp2
      go_meet
      case rel => exact ⟨by rw [Bool.and_false]; exact (hF.out.set 4 _).alloc _, madeAt _ _ _ _ _, (hb.out.setCell (Nat.le_refl _) _).alloc (by simpa using hb.out.size) _⟩
     ·go_wp2
      go_meet
      case rel => exact ⟨by rw [Bool.and_true]; exact HFA.out, HSt.out, hb.out.alloc hb.out.size _⟩
    case rest =>
     obtain ⟨F1, S1, B1⟩ := hcut
     clear HFA HSt q4 z4 g0 g1 c1 hF hb
     generalize (v5 && fr) = v6 at *
     have s0 := S1.out.cell 1 (v := .slice a2 m cap2) rfl
     generalize hsx : wr.heap.size = sx at *
     clear hsx
     have hsl : w1.heap.size < sx := hlP
     go_wp2
     go_loopw [8] (fun i wr => ∃ k : Nat, k ≤ m ∧ i = .int .i64 k ∧ Hid (Blk wr w1.heap.size (flags (gA v1 ar k) (gF v2 ar k) (gC v3 ar k) (gS v4 ar k) (gP v6 ar k)) 41) ∧ Hid (Blk wr sx #[.int .i64 f, .slice a2 m cap2] 33) ∧ Hid (Below w1.heap.size w1 wr)) (fun i _ => m - (intOf i).toNat)
     case atStart =>
      obtain ⟨e1, _⟩ := g_zero v1 ar
      obtain ⟨_, e2, _⟩ := g_zero v2 ar
      obtain ⟨_, _, e3, _⟩ := g_zero v3 ar
      obtain ⟨_, _, _, e4, _⟩ := g_zero v4 ar
      obtain ⟨_, _, _, _, e5⟩ := g_zero v6 ar
      exact ⟨0, Nat.zero_le _, rfl, by rw [e1, e2, e3, e4, e5]; exact F1, S1, B1⟩
     case round =>
      clear s0 F1 S1 B1
      obtain ⟨k, hk, rfl, F1, S1, B1⟩ := hrel
      have s0 := S1.out.cell 1 (v := .slice a2 m cap2) rfl
      by_cases hkm : k < m
      ·obtain ⟨b2, off2, rfl, hbl2, r0, r1, r2, r3⟩ := HC2.out k hkm
       have hbw : Below w.heap.size w wr := HB1.out.trans (B1.out.mono HB1.out.size)
       have r0 := (hbw.cell (p := ⟨b2, off2 + k * 4, none⟩) hbl2).trans r0
       have r1 := (hbw.cell (p := ⟨b2, off2 + k * 4 + 1, none⟩) hbl2).trans r1
       have r2 := (hbw.cell (p := ⟨b2, off2 + k * 4 + 2, none⟩) hbl2).trans r2
       have r3 := (hbw.cell (p := ⟨b2, off2 + k * 4 + 3, none⟩) hbl2).trans r3
       have hka : k < ar.length := by rw [HMm.out]; exact hkm
       have HG : Hid (gA v1 ar (k + 1) = (gA v1 ar k && accA (el ar k)) ∧ gF v2 ar (k + 1) = (gF v2 ar k && fullA (el ar k)) ∧ gC v3 ar (k + 1) = ((gC v3 ar k && fullA (el ar k)) && rowC ar k k) ∧ gS v4 ar (k + 1) = (gS v4 ar k && rowS ar k k) ∧ gP v6 ar (k + 1) = (gP v6 ar k && freeW (el ar k))) := ⟨gA_succ hka, gF_succ hka, gC_succ hka, gS_succ, gP_succ hka⟩
       generalize gA v1 ar k = x1 at *
       generalize gF v2 ar k = x2 at *
       generalize gC v3 ar k = x3 at *
       generalize gS v4 ar k = x4 at *
       generalize gP v6 ar k = x5 at *
       generalize hp : el ar k = p at r0 r1 r2 r3 HG
       obtain ⟨p0, p1, p2, p3⟩ := p
       have HP : Hid (el ar k = (p0, p1, p2, p3)) := hp
       simp only at r0 r1 r2 r3
       have HPS : Hid (w1.heap.size < wr.heap.size) := F1.out.lt
       have hPS := F1.out.lt
       have hSS := S1.out.lt
       have q0 := F1.out.cell 0 (v := .bool x1) rfl
       have y0 := F1.out.fz 0
       clear hp hka hbw
       go_upto_if 56 with fail
       go_cut [] (fun wx => Hid (Blk wx w1.heap.size (flags (x1 && accA (p0, p1, p2, p3)) x2 x3 x4 x5) 41) ∧ Hid (Blk wx sx #[.int .i64 f, .slice (some ⟨b2, off2, none⟩) m cap2] 33) ∧ Hid (Blk wx wr.heap.size #[.int .i64 p0, .int .i64 p1, .int .i64 p2, .int .i64 p3] 48) ∧ Hid (Below w1.heap.size w1 wx))
       case first =>
        by_cases e : p0 = p1
        ·have e' : (p0 != p1) = false := by simpa using e
         have ea : accA (p0, p1, p2, p3) = true := by simp [accA, e]
         go_wp2
         go_meet
         case rel => exact ⟨by rw [ea, Bool.and_true]; exact F1.out.alloc _, S1.out.alloc _, Blk.made _ _ _, B1.out.alloc B1.out.size _⟩
        ·have e' : (p0 != p1) = true := by simpa using e
         have ea : accA (p0, p1, p2, p3) = false := by simp [accA, e]
         go_wp2
         go_meet
         case rel => exact ⟨by rw [ea, Bool.and_false]; exact (F1.out.set 0 _).alloc _, (S1.out.setO _ _ (by show sx ≠ w1.heap.size; omega)).alloc _, madeAt _ _ _ _ _, (B1.out.setCell (Nat.le_refl _) _).alloc (by simpa using B1.out.size) _⟩
       case rest =>
        clear F1 S1 B1 q0 y0 r0 r1 r2 r3 s0
        obtain ⟨F1, S1, A1, B1⟩ := hcut
        generalize hx1 : (x1 && accA (p0, p1, p2, p3)) = X1 at *
        have HX1 : Hid ((x1 && accA (p0, p1, p2, p3)) = X1) := hx1
        clear hx1
        have a0 := A1.out.cell 0 (v := .int .i64 p0) rfl
        have a1 := A1.out.cell 1 (v := .int .i64 p1) rfl
        have a2 := A1.out.cell 2 (v := .int .i64 p2) rfl
        have a3 := A1.out.cell 3 (v := .int .i64 p3) rfl
        generalize hfu : fullA (p0, p1, p2, p3) = fu at *
        have HFU : Hid (fullA (p0, p1, p2, p3) = fu) := hfu
        clear hfu
        go_upto_if 59 with (first | (go_at_call 31; (with_reducible refine (refEmpty _ _ _ _ _ _ HFU.out).mono ?_); rintro e w5 ⟨rfl, hb5⟩; have F2 : Hid (Blk w5 w1.heap.size (flags X1 x2 x3 x4 x5) 41) := F1.out.below hb5 F1.out.lt; have S2 : Hid (Blk w5 sx #[.int .i64 f, .slice (some ⟨b2, off2, none⟩) m cap2] 33) := S1.out.below hb5 S1.out.lt; have A2 : Hid (Blk w5 wr.heap.size #[.int .i64 p0, .int .i64 p1, .int .i64 p2, .int .i64 p3] 48) := A1.out.below hb5 A1.out.lt; have B2 : Hid (Below w1.heap.size w1 w5) := B1.out.trans (hb5.mono B1.out.size); clear hb5))
        have f1 := F2.out.cell 1 (v := .bool x2) rfl
        have f2 := F2.out.cell 2 (v := .bool x3) rfl
        have y1 := F2.out.fz 1
        have y2 := F2.out.fz 2
        go_cut [] (fun wx => Hid (Blk wx w1.heap.size (flags X1 (x2 && fu) (x3 && fu) x4 x5) 41) ∧ Hid (Blk wx sx #[.int .i64 f, .slice (some ⟨b2, off2, none⟩) m cap2] 33) ∧ Hid (Blk wx wr.heap.size #[.int .i64 p0, .int .i64 p1, .int .i64 p2, .int .i64 p3] 48) ∧ Hid (Below w1.heap.size w1 wx))
        case first =>
         cases fu
         ·go_wp2
          go_meet
          case rel => exact ⟨by rw [Bool.and_false, Bool.and_false]; exact (F2.out.set 1 _).set 2 _, (S2.out.setO _ _ (by show sx ≠ w1.heap.size; omega)).setO _ _ (by show sx ≠ w1.heap.size; omega), (A2.out.setO _ _ (by show wr.heap.size ≠ w1.heap.size; omega)).setO _ _ (by show wr.heap.size ≠ w1.heap.size; omega), (B2.out.setCell (Nat.le_refl _) _).setCell (Nat.le_refl _) _⟩
         ·go_wp2
          go_meet
          case rel => exact ⟨by rw [Bool.and_true, Bool.and_true]; exact F2, S2, A2, B2⟩
        case rest =>
         clear F1 S1 A1 B1 F2 S2 A2 B2 f1 f2 y1 y2 a0 a1 a2 a3
         obtain ⟨F1, S1, A1, B1⟩ := hcut
         generalize hx2 : (x2 && fu) = X2 at *
         have HX2 : Hid ((x2 && fu) = X2) := hx2
         generalize hx3 : (x3 && fu) = X3 at *
         have HX3 : Hid ((x3 && fu) = X3) := hx3
         clear hx2 hx3
         have a2' := A1.out.cell 2 (v := .int .i64 p2) rfl
         have f4 := F1.out.cell 4 (v := .bool x5) rfl
         have y4 := F1.out.fz 4
         go_upto_if 64 with fail
         go_cut [] (fun wx => Hid (Blk wx w1.heap.size (flags X1 X2 X3 x4 (x5 && freeW (p0, p1, p2, p3))) 41) ∧ Hid (Blk wx sx #[.int .i64 f, .slice (some ⟨b2, off2, none⟩) m cap2] 33) ∧ Hid (Blk wx wr.heap.size #[.int .i64 p0, .int .i64 p1, .int .i64 p2, .int .i64 p3] 48) ∧ Hid (Below w1.heap.size w1 wx))
         case first =>
          by_cases e : 0 < p2
          ·have ea : freeW (p0, p1, p2, p3) = false := by simp [freeW, e]
           go_wp2
           go_meet
           case rel => exact ⟨by rw [ea, Bool.and_false]; exact F1.out.set 4 _, S1.out.setO _ _ (by show sx ≠ w1.heap.size; omega), A1.out.setO _ _ (by show wr.heap.size ≠ w1.heap.size; omega), B1.out.setCell (Nat.le_refl _) _⟩
          ·have ea : freeW (p0, p1, p2, p3) = true := by simp [freeW, e]
           go_wp2
           go_meet
           case rel => exact ⟨by rw [ea, Bool.and_true]; exact F1, S1, A1, B1⟩
         case rest =>
          clear F1 S1 A1 B1 a2' f4 y4
          obtain ⟨F1, S1, A1, B1⟩ := hcut
          generalize hx5 : (x5 && freeW (p0, p1, p2, p3)) = X5 at *
          have HX5 : Hid ((x5 && freeW (p0, p1, p2, p3)) = X5) := hx5
          clear hx5
          generalize hax : wr.heap.size = ax at *
          clear hax
          go_wp2
          go_loopw [10] (fun i wx => ∃ j : Nat, j ≤ k ∧ i = .int .i64 j ∧ Hid (Blk wx w1.heap.size (flags X1 X2 (X3 && rowC ar k j) (x4 && rowS ar k j) X5) 41) ∧ Hid (Blk wx sx #[.int .i64 f, .slice (some ⟨b2, off2, none⟩) m cap2] 33) ∧ Hid (Blk wx ax #[.int .i64 p0, .int .i64 p1, .int .i64 p2, .int .i64 p3] 48) ∧ Hid (Below w1.heap.size w1 wx)) (fun i _ => k - (intOf i).toNat)
          case atStart => exact ⟨0, Nat.zero_le _, rfl, by simpa [rowC, rowS] using F1, S1, A1, B1⟩
          case round =>
           clear F1 S1 A1 B1
           obtain ⟨j, hj, rfl, F1, S1, A1, B1⟩ := hrel
           by_cases hjk : j < k
           ·obtain ⟨b3, off3, he3, _, t0, t1, t2, t3⟩ := HC2.out j (by omega)
            injection he3 with he3
            injection he3 with he4 he5 _
            subst he4 he5
            have hbw : Below w.heap.size w wr := HB1.out.trans (B1.out.mono HB1.out.size)
            have t0 := (hbw.cell (p := ⟨b2, off2 + j * 4, none⟩) hbl2).trans t0
            have t1 := (hbw.cell (p := ⟨b2, off2 + j * 4 + 1, none⟩) hbl2).trans t1
            have t2 := (hbw.cell (p := ⟨b2, off2 + j * 4 + 2, none⟩) hbl2).trans t2
            have t3 := (hbw.cell (p := ⟨b2, off2 + j * 4 + 3, none⟩) hbl2).trans t3
            have HG2 : Hid (rowC ar k (j + 1) = (rowC ar k j && !pairB (p0, p1, p2, p3) (el ar j)) ∧ rowS ar k (j + 1) = (rowS ar k j && !aheadB (p0, p1, p2, p3) (el ar j))) := by rw [← HP.out]; exact ⟨rowC_succ ar k j, rowS_succ ar k j⟩
            generalize el ar j = q at *
            obtain ⟨q0, q1, q2, q3⟩ := q
            simp only at t0 t1 t2 t3
            have s0 := S1.out.cell 1 (v := .slice (some ⟨b2, off2, none⟩) m cap2) rfl
            have a0 := A1.out.cell 0 (v := .int .i64 p0) rfl
            have a1 := A1.out.cell 1 (v := .int .i64 p1) rfl
            have a2 := A1.out.cell 2 (v := .int .i64 p2) rfl
            have a3 := A1.out.cell 3 (v := .int .i64 p3) rfl
            have lF := F1.out.lt
            have lS := S1.out.lt
            have lA := A1.out.lt
            clear hbw
            generalize hC0 : (X3 && rowC ar k j) = C0 at *
            generalize hS0 : (x4 && rowS ar k j) = S0 at *
            have HC0 : Hid ((X3 && rowC ar k j) = C0) := hC0
            have HS0 : Hid ((x4 && rowS ar k j) = S0) := hS0
            clear hC0 hS0
            go_upto_region 26 with fail
            go_cut [87] (fun t wx => t = .bool (pairB (p0, p1, p2, p3) (q0, q1, q2, q3)) ∧ Hid (Blk wx w1.heap.size (flags X1 X2 C0 S0 X5) 41) ∧ Hid (Blk wx sx #[.int .i64 f, .slice (some ⟨b2, off2, none⟩) m cap2] 33) ∧ Hid (Blk wx ax #[.int .i64 p0, .int .i64 p1, .int .i64 p2, .int .i64 p3] 48) ∧ Hid (Blk wx wr.heap.size #[.int .i64 q0, .int .i64 q1, .int .i64 q2, .int .i64 q3] 48) ∧ Hid (Below w1.heap.size w1 wx))
            case first =>
             by_cases e0 : p0 = q0
             ·have e0' : (p0 == q0) = true := by simpa using e0
              by_cases e1 : p1 = q1
              ·have e1' : (p1 == q1) = true := by simpa using e1
               go_wp2
               go_meet
               case rel => exact ⟨by simp [pairB, e0, e1], F1.out.alloc _, S1.out.alloc _, A1.out.alloc _, Blk.made _ _ _, B1.out.alloc B1.out.size _⟩
              ·have e1' : (p1 == q1) = false := by simpa using e1
               go_wp2
               go_meet
               case rel => exact ⟨by simp [pairB, e0, e1], F1.out.alloc _, S1.out.alloc _, A1.out.alloc _, Blk.made _ _ _, B1.out.alloc B1.out.size _⟩
             ·have e0' : (p0 == q0) = false := by simpa using e0
              go_wp2
              go_meet
              case rel => exact ⟨by simp [pairB, e0], F1.out.alloc _, S1.out.alloc _, A1.out.alloc _, Blk.made _ _ _, B1.out.alloc B1.out.size _⟩
            case rest =>
             clear F1 S1 A1 B1 t0 t1 t2 t3 s0 a0 a1 a2 a3 lF lS lA
             obtain ⟨rfl, F1, S1, A1, Q1, B1⟩ := hcut
             generalize hbx : wr.heap.size = bx at *
             clear hbx
             generalize hpa : pairB (p0, p1, p2, p3) (q0, q1, q2, q3) = pa at *
             generalize hah : aheadB (p0, p1, p2, p3) (q0, q1, q2, q3) = ah at *
             have HAH : Hid (aheadB (p0, p1, p2, p3) (q0, q1, q2, q3) = ah) := hah
             clear hpa hah
             have f2 := F1.out.cell 2 (v := .bool C0) rfl
             have y2 := F1.out.fz 2
             have n1 := map_ne F1 S1
             have n2 := map_ne F1 A1
             have n3 := map_ne F1 Q1
             go_upto_if 87 with fail
             go_cut [] (fun wx => Hid (Blk wx w1.heap.size (flags X1 X2 (C0 && !pa) S0 X5) 41) ∧ Hid (Blk wx sx #[.int .i64 f, .slice (some ⟨b2, off2, none⟩) m cap2] 33) ∧ Hid (Blk wx ax #[.int .i64 p0, .int .i64 p1, .int .i64 p2, .int .i64 p3] 48) ∧ Hid (Blk wx bx #[.int .i64 q0, .int .i64 q1, .int .i64 q2, .int .i64 q3] 48) ∧ Hid (Below w1.heap.size w1 wx))
             case first =>
              cases pa
              ·go_wp2
               go_meet
               case rel => exact ⟨by rw [Bool.not_false, Bool.and_true]; exact F1, S1, A1, Q1, B1⟩
              ·go_wp2
               go_meet
               case rel => exact ⟨by rw [Bool.not_true, Bool.and_false]; exact F1.out.set 2 _, S1.out.setO _ _ n1, A1.out.setO _ _ n2, Q1.out.setO _ _ n3, B1.out.setCell (Nat.le_refl _) _⟩
             case rest =>
              clear F1 S1 A1 B1 Q1 f2 y2
              obtain ⟨F1, S1, A1, Q1, B1⟩ := hcut
              have a0 := A1.out.cell 0 (v := .int .i64 p0) rfl
              have u0' := Q1.out.cell 0 (v := .int .i64 q0) rfl
              have a1 := A1.out.cell 1 (v := .int .i64 p1) rfl
              have u1' := Q1.out.cell 1 (v := .int .i64 q1) rfl
              have a2 := A1.out.cell 2 (v := .int .i64 p2) rfl
              have u2' := Q1.out.cell 2 (v := .int .i64 q2) rfl
              have a3 := A1.out.cell 3 (v := .int .i64 p3) rfl
              have u3' := Q1.out.cell 3 (v := .int .i64 q3) rfl
              generalize hC1 : (C0 && !pa) = C1 at *
              have HC1 : Hid ((C0 && !pa) = C1) := hC1
              clear hC1
              go_upto_if 91 with (first | (go_at_call 32; (with_reducible refine (refAhead (p0, p1, p2, p3) (q0, q1, q2, q3) _ _ HAH.out).mono ?_); rintro e w6 ⟨rfl, hb6⟩; have F2 : Hid (Blk w6 w1.heap.size (flags X1 X2 C1 S0 X5) 41) := F1.out.below hb6 F1.out.lt; have S2 : Hid (Blk w6 sx #[.int .i64 f, .slice (some ⟨b2, off2, none⟩) m cap2] 33) := S1.out.below hb6 S1.out.lt; have A2 : Hid (Blk w6 ax #[.int .i64 p0, .int .i64 p1, .int .i64 p2, .int .i64 p3] 48) := A1.out.below hb6 A1.out.lt; have B2 : Hid (Below w1.heap.size w1 w6) := B1.out.trans (hb6.mono B1.out.size); clear hb6))
              have f3 := F2.out.cell 3 (v := .bool S0) rfl
              have y3 := F2.out.fz 3
              have HE2 : Hid (flags X1 X2 (X3 && rowC ar k (j + 1)) (x4 && rowS ar k (j + 1)) X5 = flags X1 X2 C1 (S0 && !ah) X5) := by show _ = _; rw [HG2.out.1, HG2.out.2, ← Bool.and_assoc, ← Bool.and_assoc, HC0.out, HS0.out, HC1.out]
              clear F1 S1 A1 B1 Q1 a0 a1 a2 a3 u0' u1' u2' u3'
              cases ah
              ·rw [Bool.not_false, Bool.and_true] at HE2
               go_wp2
               go_roundw
               case rel => exact ⟨j + 1, by omega, by go_num, by rw [HE2.out]; exact F2, S2, A2, B2⟩
               case measure => simp [intOf]; omega
              ·rw [Bool.not_true, Bool.and_false] at HE2
               go_wp2
               go_roundw
               case rel => exact ⟨j + 1, by omega, by go_num, by rw [HE2.out]; exact F2.out.set 3 _, S2.out.setO _ _ n1, A2.out.setO _ _ n2, B2.out.setCell (Nat.le_refl _) _⟩
               case measure => simp [intOf]; omega
           ·have hjke : j = k := by omega
            have HE2 : Hid (flags (gA v1 ar (k + 1)) (gF v2 ar (k + 1)) (gC v3 ar (k + 1)) (gS v4 ar (k + 1)) (gP v6 ar (k + 1)) = flags X1 X2 (X3 && rowC ar k j) (x4 && rowS ar k j) X5) := by
             obtain ⟨h1, h2, h3, h4, h5⟩ := HG.out
             show _ = _
             rw [h1, h2, h3, h4, h5, hjke]
            have hnl : ¬ (j : Int) < (k : Int) := by omega
            clear hjke hjk
            go_wp2
            go_roundw
            case rel => exact ⟨k + 1, by omega, by go_num, by rw [HE2.out]; exact F1, S1, B1⟩
            case measure => simp [intOf]; omega
      ·have hke : k = m := by omega
       have HE2 : Hid (flags (fA l (i + 1)) (fF l (i + 1)) (fC l (i + 1)) (fS l (i + 1)) (fP l (i + 1)) = flags (gA v1 ar k) (gF v2 ar k) (gC v3 ar k) (gS v4 ar k) (gP v6 ar k)) := by
        obtain ⟨h1, h2, h3, h4, h5⟩ := HE.out
        show _ = _
        rw [h1, h2, h3, h4, h5, hke]
       have hnl : ¬ (k : Int) < (m : Int) := by omega
       clear hke hkm
       go_wp2
       go_roundw
       case rel => exact ⟨i + 1, by omega, by go_num, B1, by rw [HE2.out]; exact F1⟩
       case measure => simp [intOf]; omega
  ·have hie : i = n := by omega
   have hnl : ¬ (i : Int) < (n : Int) := by omega
   have q0 := hF.out.cell 0 (v := .bool (fA l i)) rfl
   have q1 := hF.out.cell 1 (v := .bool (fF l i)) rfl
   have q2 := hF.out.cell 2 (v := .bool (fC l i)) rfl
   have q3 := hF.out.cell 3 (v := .bool (fS l i)) rfl
   have q4 := hF.out.cell 4 (v := .bool (fP l i)) rfl
   have kr := K1.out.below hb.out (by omega)
   have e0 := kr.cell 0 (v := .bool false) rfl
   have e1 := kr.cell 1 (v := .bool false) rfl
   have e2 := kr.cell 2 (v := .bool false) rfl
   have e3 := kr.cell 3 (v := .bool false) rfl
   have e4 := kr.cell 4 (v := .bool false) rfl
   have f0 := kr.fz 0
   have f1 := kr.fz 1
   have f2 := kr.fz 2
   have f3 := kr.fz 3
   have f4 := kr.fz 4
   have HBW : Hid (Below w.heap.size w wr) := HB1.out.trans (hb.out.mono HB1.out.size)
   subst hie
   clear kb kr hF hb
   go_wp2
   exact bodyPost_ret (v := .tuple #[.agg (flags (fA l i) (fF l i) (fC l i) (fS l i) (fP l i)), .int .i64 0]) (by simp [results, Tryz.results13, go_sem, flags, *]) rfl ⟨rfl, by (have h := HBW.out); go_grown⟩
end Go.Proofs.YthajkkobgfighaaGreatDoor.Wt
