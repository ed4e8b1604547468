/- What core.Check answers. -/
import Derived.Test.YtkeeiihaijhdoaaCaa
import Derived.Test.YtkeeiihaijhdoaaCab
import Derived.Shelf.Abstract
namespace Go.Proofs.Ytkeeiihaijhdoaa.Wt
open Go.ChangeShapes Go.WideShapes Go.ChangeAt Go.RowKit
open Go.Proofs.Ytkeeiihaijhdoaa.Pl
set_option linter.unusedVariables false
theorem arcsOf_any (v : Value) (m : Mc) (w : World) (h : Mach w v m) (hok : okM m) (h60 : m.2.length ≤ 60) (q : Nat) (hq : arcN m.2 = q) :
  Calls Try.prog 49 #[v] w fun e w' => e = .returned (.int .i64 q) ∧ Below w.heap.size w w' := by
 subst hq
 obtain ⟨z, l⟩ := m
 obtain ⟨vs, rfl, hS⟩ := h
 obtain ⟨a, cap, rfl, hc⟩ := hS.get
 have hA := okM_arcs hok h60
 clear hS hok
 have HX : Hid (∀ k, arcN (l.take k) ≤ 60 * 4398046511104) := hA
 have HC : Hid (∀ j, j < l.length → ∃ b off va, a = some ⟨b, off, none⟩ ∧ b < w.heap.size ∧ w.cell? ⟨b, off + j * 2, none⟩ = some (.int .i64 (el l j).1) ∧ w.cell? ⟨b, off + j * 2 + 1, none⟩ = some va ∧ Arcs w va (el l j).2) := hc
 clear hA hc
 simp only at h60 ⊢
 generalize hn : l.length = n at *
 go_enter Try.func49, Try.ntmps49
 go_wp2
 go_loopw [3, 9] (fun s i wr => ∃ k : Nat, k ≤ n ∧ i = .int .i64 k ∧ s = .int .i64 (arcN (l.take k)) ∧ Below w.heap.size w wr) (fun _ i _ => n - (intOf i).toNat)
 case atStart => exact ⟨0, Nat.zero_le _, rfl, rfl, by go_grown⟩
 case round =>
  obtain ⟨k, hk, rfl, rfl, hb⟩ := hrel
  by_cases hlt : k < n
  ·obtain ⟨b, off, va, rfl, hbl, g0, g1, gA⟩ := HC.out k hlt
   obtain ⟨a2, cap2, rfl⟩ := gA.sl
   have g0 := (hb.cell (p := ⟨b, off + k * 2, none⟩) hbl).trans g0
   have g1 := (hb.cell (p := ⟨b, off + k * 2 + 1, none⟩) hbl).trans g1
   have h1 := HX.out k
   have h2 := HX.out (k + 1)
   have HE : Hid (arcN (l.take (k + 1)) = arcN (l.take k) + (el l k).2.length) := arcN_take (by omega)
   rw [HE.out] at h2
   clear gA
   generalize arcN (l.take k) = s at *
   generalize (el l k).2.length = q at *
   generalize (el l k).1 = f at *
   go_wp2
   go_roundw
   case rel => exact ⟨k + 1, by omega, by go_num, by rw [HE.out]; go_num, hb.alloc hb.size _⟩
   case measure => simp [intOf]; omega
  ·go_wp2
   go_ret
   have hke : k = n := by omega
   refine ⟨ret_intK ?_, hb⟩
   rw [hke, ← hn, List.take_length]
def AskS (g : Nat) (lb : Array Value) (p : St → Bool) (l : List St) (w : World) : Prop :=
 (∀ ar W, (callFunc g ar).run Try.prog W = .ok (.enter g ar) W) ∧
 ∀ j, j < l.length → ∀ (W : World) (va : Value), Below w.heap.size w W → Arcs W va (el l j).2 → Calls Try.prog g (#[.agg #[.int .i64 (el l j).1, va]] ++ lb) W fun e w' => e = .returned (.bool (p (el l j))) ∧ Below W.heap.size W w'
set_option maxRecDepth 100000 in
theorem everyState_any (v : Value) (m : Mc) (w : World) (h : Mach w v m) (g : Nat) (lb : Array Value) (p : St → Bool) (hg : AskS g lb p m.2 w) (hl : m.2.length ≤ 60) (r : Bool) (hr : m.2.all p = r) :
  Calls Try.prog 68 #[v, .func (.func g) #[] lb] w fun e w' => e = .returned (.bool r) ∧ Below w.heap.size w w' := by
 obtain ⟨z, l⟩ := m
 obtain ⟨vs, rfl, hS⟩ := h
 obtain ⟨a, cap, rfl, hc⟩ := hS.get
 obtain ⟨eg, hg⟩ := hg
 simp only at hg hl hr ⊢
 have HC : Hid (∀ j, j < l.length → ∃ b off va, a = some ⟨b, off, none⟩ ∧ b < w.heap.size ∧ w.cell? ⟨b, off + j * 2, none⟩ = some (.int .i64 (el l j).1) ∧ w.cell? ⟨b, off + j * 2 + 1, none⟩ = some va ∧ Arcs w va (el l j).2) := hc
 have HG : Hid (∀ j, j < l.length → ∀ (W : World) (va : Value), Below w.heap.size w W → Arcs W va (el l j).2 → Calls Try.prog g (#[.agg #[.int .i64 (el l j).1, va]] ++ lb) W fun e w' => e = .returned (.bool (p (el l j))) ∧ Below W.heap.size W w') := hg
 have HR : Hid (l.all p = r) := hr
 clear hS hc hg hr
 generalize hn : l.length = n at *
 have HN : Hid (l.length = n) := hn
 clear hn
 have hnot : ∀ (x : Bool) (w : World), (Op.unary .not (.bool x)).run Try.prog w = .ok (.bool (!x)) w := fun _ _ => rfl
 go_enter Try.func68, Try.ntmps68
 go_wp2
 go_loopw [10] (fun i wr => ∃ k : Nat, k ≤ n ∧ i = .int .i64 k ∧ Hid ((l.take k).all p = true) ∧ Below w.heap.size w wr) (fun i _ => n - (intOf i).toNat)
 case atStart => exact ⟨0, Nat.zero_le _, rfl, rfl, by go_grown⟩
 case round =>
  obtain ⟨k, hk, rfl, hok, hb⟩ := hrel
  by_cases hlt : k < n
  ·obtain ⟨b, off, va, rfl, hbl, g0, g1, gA⟩ := HC.out k hlt
   have g0 := (hb.cell (p := ⟨b, off + k * 2, none⟩) hbl).trans g0
   have g1 := (hb.cell (p := ⟨b, off + k * 2 + 1, none⟩) hbl).trans g1
   have GA := gA.later hb (Nat.le_refl _)
   have GA2 : Hid (Arcs (wr.alloc (.cells #[.int .i64 (el l k).1, va] 58)) va (el l k).2) := GA.later ((Below.refl _ _).alloc (Nat.le_refl _) _) (Nat.le_refl _)
   have HC1 := HG.out k hlt (wr.alloc (.cells #[.int .i64 (el l k).1, va] 58)) va (hb.alloc hb.size _) GA2.out
   have HB2 : Hid (Below w.heap.size w (wr.alloc (.cells #[.int .i64 (el l k).1, va] 58))) := hb.alloc hb.size _
   obtain ⟨a2, cap2, hva⟩ := GA.sl
   subst hva
   rcases bool_cases' (p (el l k)) with hp | hp
   ·have HO : Hid ((l.take (k + 1)).all p = true) := by show _ = _; rw [all_take_succ (by rw [HN.out]; exact hlt), hok.out, hp]; rfl
    rw [hp] at HC1
    have HCC : Hid (Calls Try.prog g (#[.agg #[.int .i64 (el l k).1, .slice a2 (el l k).2.length cap2]] ++ lb) (wr.alloc (.cells #[.int .i64 (el l k).1, .slice a2 (el l k).2.length cap2] 58)) fun e w' => e = .returned (.bool true) ∧ Below (wr.alloc (.cells #[.int .i64 (el l k).1, .slice a2 (el l k).2.length cap2] 58)).heap.size (wr.alloc (.cells #[.int .i64 (el l k).1, .slice a2 (el l k).2.length cap2] 58)) w') := HC1
    clear HC1 GA GA2 gA hp hok
    generalize (el l k).2.length = q at *
    generalize (el l k).1 = f at *
    go_wp2_with (go_at_fn g; refine HCC.out.mono ?_; rintro e w' ⟨rfl, hb'⟩; have HB3 : Hid (Below w.heap.size w w') := HB2.out.trans (hb'.mono HB2.out.size); clear hb')
    go_roundw
    case rel => exact ⟨k + 1, by omega, by go_num, HO, HB3.out⟩
    case measure => simp [intOf]; omega
   ·have HO : Hid (false = r) := by show _ = _; rw [← HR.out]; exact (all_false_el (by rw [HN.out]; exact hlt) hp).symm
    rw [hp] at HC1
    have HCC : Hid (Calls Try.prog g (#[.agg #[.int .i64 (el l k).1, .slice a2 (el l k).2.length cap2]] ++ lb) (wr.alloc (.cells #[.int .i64 (el l k).1, .slice a2 (el l k).2.length cap2] 58)) fun e w' => e = .returned (.bool false) ∧ Below (wr.alloc (.cells #[.int .i64 (el l k).1, .slice a2 (el l k).2.length cap2] 58)).heap.size (wr.alloc (.cells #[.int .i64 (el l k).1, .slice a2 (el l k).2.length cap2] 58)) w') := HC1
    clear HC1 GA GA2 gA hp hok
    generalize (el l k).2.length = q at *
    generalize (el l k).1 = f at *
    go_wp2_with (go_at_fn g; refine HCC.out.mono ?_; rintro e w' ⟨rfl, hb'⟩; have HB3 : Hid (Below w.heap.size w w') := HB2.out.trans (hb'.mono HB2.out.size); clear hb')
    go_ret
    exact ⟨ret_boolK HO.out, HB3.out⟩
  ·have hke : k = n := by omega
   have HO : Hid (true = r) := by show _ = _; rw [← HR.out]; have h := hok.out; rw [hke, ← HN.out, List.take_length] at h; exact h.symm
   have hnl : ¬ (k : Int) < (n : Int) := by omega
   clear hke hok hlt
   go_wp2
   go_ret
   exact ⟨ret_boolK HO.out, hb⟩
def AskA (g : Nat) (lb : Array Value) (p : Ar → Bool) (w : World) : Prop :=
 (∀ ar W, (callFunc g ar).run Try.prog W = .ok (.enter g ar) W) ∧
 ∀ (a : Ar) (W : World), Below w.heap.size w W → Calls Try.prog g (#[.agg #[.int .i64 a.1, .int .i64 a.2.1, .int .i64 a.2.2.1, .int .i64 a.2.2.2]] ++ lb) W fun e w' => e = .returned (.bool (p a)) ∧ Below W.heap.size W w'
theorem AskA.later {g : Nat} {lb : Array Value} {p : Ar → Bool} {w w' : World} (h : AskA g lb p w) (hb : Below w.heap.size w w') : AskA g lb p w' := ⟨h.1, fun a W hW => h.2 a W (hb.trans (hW.mono hb.size))⟩
set_option maxRecDepth 100000 in
set_option maxHeartbeats 1000000 in
theorem arcsAll_any (f : Int) (va : Value) (l : List Ar) (B : Nat) (w W : World) (g : Nat) (lb : Array Value) (p : Ar → Bool) (hg : AskA g lb p w) (hB : w.cell? ⟨B, 0, none⟩ = some (.func (.func g) #[] lb)) (hW : Below w.heap.size w W) (hA : Arcs W va l) (hl : l.length ≤ 4398046511104) (r : Bool) (hr : l.all p = r) :
  Calls Try.prog 76 #[.agg #[.int .i64 f, va], .pointer (some ⟨B, 0, none⟩)] W fun e w' => e = .returned (.bool r) ∧ Below W.heap.size W w' := by
 obtain ⟨a, cap, rfl, hc⟩ := hA.get
 obtain ⟨eg, hg⟩ := hg
 have HC : Hid (∀ j, j < l.length → ∃ b off, a = some ⟨b, off, none⟩ ∧ b < W.heap.size ∧ W.cell? ⟨b, off + j * 4, none⟩ = some (.int .i64 (el l j).1) ∧ W.cell? ⟨b, off + j * 4 + 1, none⟩ = some (.int .i64 (el l j).2.1) ∧ W.cell? ⟨b, off + j * 4 + 2, none⟩ = some (.int .i64 (el l j).2.2.1) ∧ W.cell? ⟨b, off + j * 4 + 3, none⟩ = some (.int .i64 (el l j).2.2.2)) := hc
 have HG : Hid (∀ (a : Ar) (V : World), Below w.heap.size w V → Calls Try.prog g (#[.agg #[.int .i64 a.1, .int .i64 a.2.1, .int .i64 a.2.2.1, .int .i64 a.2.2.2]] ++ lb) V fun e w' => e = .returned (.bool (p a)) ∧ Below V.heap.size V w') := hg
 have HR : Hid (l.all p = r) := hr
 have hBl := World.block_lt_of_cell? _ _ hB
 have hB1 : W.cell? ⟨B, 0, none⟩ = some (.func (.func g) #[] lb) := (hW.cell (p := ⟨B, 0, none⟩) hBl).trans hB
 have HW : Hid (Below w.heap.size w W) := hW
 have hBW : B < W.heap.size := World.block_lt_of_cell? _ _ hB1
 clear hA hc hg hr hW hB
 generalize hn : l.length = n at *
 have HN : Hid (l.length = n) := hn
 clear hn
 have hnot : ∀ (x : Bool) (w : World), (Op.unary .not (.bool x)).run Try.prog w = .ok (.bool (!x)) w := fun _ _ => rfl
 go_enter Try.func76, Try.ntmps76
 go_wp2
 go_loopw [9] (fun i wr => ∃ k : Nat, k ≤ n ∧ i = .int .i64 k ∧ Hid ((l.take k).all p = true) ∧ Below W.heap.size W wr) (fun i _ => n - (intOf i).toNat)
 case atStart => exact ⟨0, Nat.zero_le _, rfl, rfl, by go_grown⟩
 case round =>
  obtain ⟨k, hk, rfl, hok, hb⟩ := hrel
  by_cases hlt : k < n
  ·obtain ⟨b, off, rfl, hbl, g0, g1, g2, g3⟩ := HC.out k hlt
   have g0 := (hb.cell (p := ⟨b, off + k * 4, none⟩) hbl).trans g0
   have g1 := (hb.cell (p := ⟨b, off + k * 4 + 1, none⟩) hbl).trans g1
   have g2 := (hb.cell (p := ⟨b, off + k * 4 + 2, none⟩) hbl).trans g2
   have g3 := (hb.cell (p := ⟨b, off + k * 4 + 3, none⟩) hbl).trans g3
   have g4 := (hb.cell (p := ⟨B, 0, none⟩) hBW).trans hB1
   have hBr : B < wr.heap.size := Nat.lt_of_lt_of_le hBW hb.size
   have HB2 : Hid (Below W.heap.size W (wr.alloc (.cells #[.int .i64 (el l k).1, .int .i64 (el l k).2.1, .int .i64 (el l k).2.2.1, .int .i64 (el l k).2.2.2] 75))) := hb.alloc hb.size _
   have HC1 := HG.out (el l k) (wr.alloc (.cells #[.int .i64 (el l k).1, .int .i64 (el l k).2.1, .int .i64 (el l k).2.2.1, .int .i64 (el l k).2.2.2] 75)) (HW.out.trans (HB2.out.mono HW.out.size))
   rcases bool_cases' (p (el l k)) with hp | hp
   ·have HO : Hid ((l.take (k + 1)).all p = true) := by show _ = _; rw [all_take_succ (by rw [HN.out]; exact hlt), hok.out, hp]; rfl
    rw [hp] at HC1
    have HCC : Hid (Calls Try.prog g (#[.agg #[.int .i64 (el l k).1, .int .i64 (el l k).2.1, .int .i64 (el l k).2.2.1, .int .i64 (el l k).2.2.2]] ++ lb) (wr.alloc (.cells #[.int .i64 (el l k).1, .int .i64 (el l k).2.1, .int .i64 (el l k).2.2.1, .int .i64 (el l k).2.2.2] 75)) fun e w' => e = .returned (.bool true) ∧ Below (wr.alloc (.cells #[.int .i64 (el l k).1, .int .i64 (el l k).2.1, .int .i64 (el l k).2.2.1, .int .i64 (el l k).2.2.2] 75)).heap.size (wr.alloc (.cells #[.int .i64 (el l k).1, .int .i64 (el l k).2.1, .int .i64 (el l k).2.2.1, .int .i64 (el l k).2.2.2] 75)) w') := HC1
    clear HC1 hp hok
    generalize (el l k).1 = x0 at *
    generalize (el l k).2.1 = x1 at *
    generalize (el l k).2.2.1 = x2 at *
    generalize (el l k).2.2.2 = x3 at *
    go_wp2_with (go_at_fn g; refine HCC.out.mono ?_; rintro e w' ⟨rfl, hb'⟩; have HB3 : Hid (Below W.heap.size W w') := HB2.out.trans (hb'.mono HB2.out.size); clear hb')
    go_roundw
    case rel => exact ⟨k + 1, by omega, by go_num, HO, HB3.out⟩
    case measure => simp [intOf]; omega
   ·have HO : Hid (false = r) := by show _ = _; rw [← HR.out]; exact (all_false_el (by rw [HN.out]; exact hlt) hp).symm
    rw [hp] at HC1
    have HCC : Hid (Calls Try.prog g (#[.agg #[.int .i64 (el l k).1, .int .i64 (el l k).2.1, .int .i64 (el l k).2.2.1, .int .i64 (el l k).2.2.2]] ++ lb) (wr.alloc (.cells #[.int .i64 (el l k).1, .int .i64 (el l k).2.1, .int .i64 (el l k).2.2.1, .int .i64 (el l k).2.2.2] 75)) fun e w' => e = .returned (.bool false) ∧ Below (wr.alloc (.cells #[.int .i64 (el l k).1, .int .i64 (el l k).2.1, .int .i64 (el l k).2.2.1, .int .i64 (el l k).2.2.2] 75)).heap.size (wr.alloc (.cells #[.int .i64 (el l k).1, .int .i64 (el l k).2.1, .int .i64 (el l k).2.2.1, .int .i64 (el l k).2.2.2] 75)) w') := HC1
    clear HC1 hp hok
    generalize (el l k).1 = x0 at *
    generalize (el l k).2.1 = x1 at *
    generalize (el l k).2.2.1 = x2 at *
    generalize (el l k).2.2.2 = x3 at *
    go_wp2_with (go_at_fn g; refine HCC.out.mono ?_; rintro e w' ⟨rfl, hb'⟩; have HB3 : Hid (Below W.heap.size W w') := HB2.out.trans (hb'.mono HB2.out.size); clear hb')
    go_ret
    exact ⟨ret_boolK HO.out, HB3.out⟩
  ·have hke : k = n := by omega
   have HO : Hid (true = r) := by show _ = _; rw [← HR.out]; have h := hok.out; rw [hke, ← HN.out, List.take_length] at h; exact h.symm
   have hnl : ¬ (k : Int) < (n : Int) := by omega
   clear hke hok hlt
   go_wp2
   go_ret
   exact ⟨ret_boolK HO.out, hb⟩
theorem arcsAll_ask (B : Nat) (l : List St) (w : World) (g : Nat) (lb : Array Value) (p : Ar → Bool) (hg : AskA g lb p w) (hB : w.cell? ⟨B, 0, none⟩ = some (.func (.func g) #[] lb)) (hl : ∀ j, j < l.length → (el l j).2.length ≤ 4398046511104) :
  AskS 76 #[.pointer (some ⟨B, 0, none⟩)] (fun s => s.2.all p) l w :=
 ⟨enters_of Try.func76 (by kernel_rfl) rfl, fun j hj W va hW hA => arcsAll_any _ va _ B w W g lb p hg hB hW hA (hl j hj) _ rfl⟩
theorem everyArc_any (v : Value) (m : Mc) (w : World) (h : Mach w v m) (g : Nat) (lb : Array Value) (p : Ar → Bool) (hg : AskA g lb p w) (hok : okM m) (hl : m.2.length ≤ 60) (r : Bool) (hr : m.2.all (fun s => s.2.all p) = r) :
  Calls Try.prog 69 #[v, .func (.func g) #[] lb] w fun e w' => e = .returned (.bool r) ∧ Below w.heap.size w w' := by
 obtain ⟨z, l⟩ := m
 obtain ⟨vs, rfl, hS⟩ := h
 obtain ⟨a, cap, rfl⟩ := hS.sl
 have HM : Hid (Mach w (.agg #[.int .i64 z, .slice a l.length cap]) (z, l)) := ⟨_, rfl, hS⟩
 have HG : Hid (AskA g lb p w) := hg
 have HL : Hid (∀ j, j < l.length → (el l j).2.length ≤ 4398046511104) := fun j hj => by have := hok.2 j hj; simp only at this; omega
 have HR : Hid (l.all (fun s => s.2.all p) = r) := hr
 have H60 : Hid (l.length ≤ 60) := hl
 clear hg hS hok hr hl
 have hmf : ∀ (fn : Fn) (first cap : Array Value) (w : World), (Instr.makeFunc fn first cap).run Try.prog w = .ok (.func fn first cap) w := fun _ _ _ _ => rfl
 simp only
 generalize hn : l.length = n at *
 have HN : Hid (l.length = n) := hn
 clear hn
 have HB : Hid (Below w.heap.size w ((w.alloc (.cells #[.int .i64 z, .slice a n cap] 24)).alloc (.cells #[.func (.func g) #[] lb] 101))) := by show Below _ _ _; go_grown
 go_enter Try.func69, Try.ntmps69
 go_wp2_with (first | (go_at_call 68; (with_reducible refine (everyState_any _ (z, l) _ (HM.out.later HB.out (Nat.le_refl _)) _ _ _ (arcsAll_ask _ l _ g lb p (HG.out.later HB.out) (by go_cell) (by rw [HN.out]; exact HL.out)) (by show l.length ≤ 60; rw [HN.out]; exact H60.out) r HR.out).mono ?_); rintro e w' ⟨rfl, hb⟩))
 go_ret
 exact ⟨rfl, HB.out.trans (hb.mono HB.out.size)⟩
def Betw (w : World) (v : Value) (lo hi : Int) : Prop := ∃ b0 b1, v = .func (.func 75) #[] #[.pointer (some ⟨b0, 0, none⟩), .pointer (some ⟨b1, 0, none⟩)] ∧ w.cell? ⟨b0, 0, none⟩ = some (.int .i64 lo) ∧ w.cell? ⟨b1, 0, none⟩ = some (.int .i64 hi)
theorem Betw.later {w w' : World} {v : Value} {lo hi : Int} (h : Betw w v lo hi) {B : Nat} (hb : Below B w w') (hB : w.heap.size ≤ B) : Betw w' v lo hi := by
 obtain ⟨b0, b1, hv, h0, h1⟩ := h
 exact ⟨b0, b1, hv, (hb.cell (Nat.lt_of_lt_of_le (World.block_lt_of_cell? _ _ h0) hB)).trans h0, (hb.cell (Nat.lt_of_lt_of_le (World.block_lt_of_cell? _ _ h1) hB)).trans h1⟩
theorem between1_any (n lo hi : Int) (b0 b1 : Nat) (w : World) (h0 : w.cell? ⟨b0, 0, none⟩ = some (.int .i64 lo)) (h1 : w.cell? ⟨b1, 0, none⟩ = some (.int .i64 hi)) (r : Bool) (hr : inB n lo hi = r) :
  Calls Try.prog 75 #[.int .i64 n, .pointer (some ⟨b0, 0, none⟩), .pointer (some ⟨b1, 0, none⟩)] w fun e w' => e = .returned (.bool r) ∧ w = w' := by
 subst hr
 unfold inB
 go_enter Try.func75, Try.ntmps75
 go_wp2
 all_goals
  go_ret
  exact ⟨ret_boolK (by simp_all <;> intros <;> omega), by simp_all⟩
def VarB (w : World) (c : Nat) (lo hi : Int) : Prop := ∃ v, w.cell? ⟨c, 0, none⟩ = some v ∧ Betw w v lo hi
theorem VarB.later {w w' : World} {c : Nat} {lo hi : Int} (h : VarB w c lo hi) {B : Nat} (hb : Below B w w') (hB : w.heap.size ≤ B) : VarB w' c lo hi := by
 obtain ⟨v, h0, h1⟩ := h
 exact ⟨v, (hb.cell (Nat.lt_of_lt_of_le (World.block_lt_of_cell? _ _ h0) hB)).trans h0, h1.later hb hB⟩
set_option maxRecDepth 100000 in
theorem mayEnd_any (f : Int) (va : Value) (hva : ∃ a n c, va = .slice a n c) (c : Nat) (w : World) (hc : VarB w c 0 1000000000) (r : Bool) (hr : finB f = r) :
  Calls Try.prog 67 #[.agg #[.int .i64 f, va], .pointer (some ⟨c, 0, none⟩)] w fun e w' => e = .returned (.bool r) ∧ Below w.heap.size w w' := by
 subst hr
 obtain ⟨a, n, cp, rfl⟩ := hva
 obtain ⟨v, hv, b0, b1, rfl, h0, h1⟩ := hc
 have l0 := World.block_lt_of_cell? _ _ hv
 have l1 := World.block_lt_of_cell? _ _ h0
 have l2 := World.block_lt_of_cell? _ _ h1
 simp only at l0 l1 l2
 by_cases hx : f = 1000000001
 ·subst hx
  go_enter Try.func67, Try.ntmps67
  go_wp2
  go_ret
  exact ⟨rfl, by go_grown⟩
 ·have hne : (f == 1000000001) = false := by simpa using hx
  have HE : Hid (inB f 0 1000000000 = finB f) := by show _ = _; simp [finB, hx]
  clear hx
  go_enter Try.func67, Try.ntmps67
  go_wp2_with (first | (go_at_call 75; (with_reducible refine (between1_any _ _ _ _ _ _ (by go_cell) (by go_cell) _ HE.out).mono ?_); rintro e w' ⟨rfl, rfl⟩))
  go_ret
  exact ⟨rfl, by go_grown⟩
set_option maxRecDepth 100000 in
set_option maxHeartbeats 1000000 in
theorem mayBe_any (x : Ar) (cl cc cs : Nat) (n : Int) (w : World) (hl : VarB w cl 0 1000) (hc : VarB w cc 0 1000000000) (hs : VarB w cs 0 n) (r : Bool) (hr : (inB x.1 0 1000 && inB x.2.1 0 1000 && inB x.2.2.1 0 1000000000 && inB x.2.2.2 0 n) = r) :
  Calls Try.prog 66 #[.agg #[.int .i64 x.1, .int .i64 x.2.1, .int .i64 x.2.2.1, .int .i64 x.2.2.2], .pointer (some ⟨cl, 0, none⟩), .pointer (some ⟨cc, 0, none⟩), .pointer (some ⟨cs, 0, none⟩)] w fun e w' => e = .returned (.bool r) ∧ Below w.heap.size w w' := by
 subst hr
 obtain ⟨x0, x1, x2, x3⟩ := x
 simp only
 obtain ⟨vl, hl, bl0, bl1, rfl, hl0, hl1⟩ := hl
 obtain ⟨vc, hc, bc0, bc1, rfl, hc0, hc1⟩ := hc
 obtain ⟨vs, hs, bs0, bs1, rfl, hs0, hs1⟩ := hs
 have l0 := World.block_lt_of_cell? _ _ hl
 have l1 := World.block_lt_of_cell? _ _ hl0
 have l2 := World.block_lt_of_cell? _ _ hl1
 have l3 := World.block_lt_of_cell? _ _ hc
 have l4 := World.block_lt_of_cell? _ _ hc0
 have l5 := World.block_lt_of_cell? _ _ hc1
 have l6 := World.block_lt_of_cell? _ _ hs
 have l7 := World.block_lt_of_cell? _ _ hs0
 have l8 := World.block_lt_of_cell? _ _ hs1
 simp only at l0 l1 l2 l3 l4 l5 l6 l7 l8
 generalize hr1 : inB x0 0 1000 = r1
 generalize hr2 : inB x1 0 1000 = r2
 generalize hr3 : inB x2 0 1000000000 = r3
 generalize hr4 : inB x3 0 n = r4
 have H1 : Hid (inB x0 0 1000 = r1) := hr1
 have H2 : Hid (inB x1 0 1000 = r2) := hr2
 have H3 : Hid (inB x2 0 1000000000 = r3) := hr3
 have H4 : Hid (inB x3 0 n = r4) := hr4
 clear hr1 hr2 hr3 hr4
 cases r1
 ·go_enter Try.func66, Try.ntmps66
  go_wp2_with (first | (go_at_call 75; (with_reducible refine (between1_any _ _ _ _ _ _ (by go_cell) (by go_cell) _ H1.out).mono ?_); rintro e w' ⟨rfl, rfl⟩))
  go_ret
  exact ⟨rfl, by go_grown⟩
 cases r2
 ·go_enter Try.func66, Try.ntmps66
  go_wp2_with (first | (go_at_call 75; (with_reducible refine (between1_any _ _ _ _ _ _ (by go_cell) (by go_cell) _ H1.out).mono ?_); rintro e w' ⟨rfl, rfl⟩) | (go_at_call 75; (with_reducible refine (between1_any _ _ _ _ _ _ (by go_cell) (by go_cell) _ H2.out).mono ?_); rintro e w' ⟨rfl, rfl⟩))
  go_ret
  exact ⟨rfl, by go_grown⟩
 cases r3
 ·go_enter Try.func66, Try.ntmps66
  go_wp2_with (first | (go_at_call 75; (with_reducible refine (between1_any _ _ _ _ _ _ (by go_cell) (by go_cell) _ H1.out).mono ?_); rintro e w' ⟨rfl, rfl⟩) | (go_at_call 75; (with_reducible refine (between1_any _ _ _ _ _ _ (by go_cell) (by go_cell) _ H2.out).mono ?_); rintro e w' ⟨rfl, rfl⟩) | (go_at_call 75; (with_reducible refine (between1_any _ _ _ _ _ _ (by go_cell) (by go_cell) _ H3.out).mono ?_); rintro e w' ⟨rfl, rfl⟩))
  go_ret
  exact ⟨rfl, by go_grown⟩
 go_enter Try.func66, Try.ntmps66
 go_wp2_with (first | (go_at_call 75; (with_reducible refine (between1_any _ _ _ _ _ _ (by go_cell) (by go_cell) _ H1.out).mono ?_); rintro e w' ⟨rfl, rfl⟩) | (go_at_call 75; (with_reducible refine (between1_any _ _ _ _ _ _ (by go_cell) (by go_cell) _ H2.out).mono ?_); rintro e w' ⟨rfl, rfl⟩) | (go_at_call 75; (with_reducible refine (between1_any _ _ _ _ _ _ (by go_cell) (by go_cell) _ H3.out).mono ?_); rintro e w' ⟨rfl, rfl⟩) | (go_at_call 75; (with_reducible refine (between1_any _ _ _ _ _ _ (by go_cell) (by go_cell) _ H4.out).mono ?_); rintro e w' ⟨rfl, rfl⟩))
 go_ret
 exact ⟨rfl, by go_grown⟩
theorem mayEnd_ask (c : Nat) (l : List St) (w : World) (hc : VarB w c 0 1000000000) : AskS 67 #[.pointer (some ⟨c, 0, none⟩)] (fun s => finB s.1) l w :=
 ⟨enters_of Try.func67 (by kernel_rfl) rfl, fun j hj W va hW hA => mayEnd_any _ va (by obtain ⟨a, cp, h⟩ := hA.sl; exact ⟨a, _, cp, h⟩) c W (hc.later hW (Nat.le_refl _)) _ rfl⟩
theorem mayBe_ask (cl cc cs : Nat) (n : Nat) (w : World) (hl : VarB w cl 0 1000) (hc : VarB w cc 0 1000000000) (hs : VarB w cs 0 ((n : Int) - 1)) : AskA 66 #[.pointer (some ⟨cl, 0, none⟩), .pointer (some ⟨cc, 0, none⟩), .pointer (some ⟨cs, 0, none⟩)] (arcB n) w :=
 ⟨enters_of Try.func66 (by kernel_rfl) rfl, fun a W hW => mayBe_any a cl cc cs _ W (hl.later hW (Nat.le_refl _)) (hc.later hW (Nat.le_refl _)) (hs.later hW (Nat.le_refl _)) _ rfl⟩
theorem all_both (n : Nat) (l : List St) : l.all (stB n) = (l.all (fun s => finB s.1) && l.all (fun s => s.2.all (arcB n))) := by
  induction l with
  | nil => rfl
  | cons s l ih =>
    simp only [List.all_cons, ih, stB]
    cases finB s.1 <;> cases s.2.all (arcB n) <;> cases l.all (fun s => finB s.1) <;> rfl
end Go.Proofs.Ytkeeiihaijhdoaa.Wt
