/- The reference: a machine made certain, where it is refused or has no Start. The reference: a machine made certain, at every argument. -/
import Derived.Test.YtfekmlblldhieaaDoorRn
import Derived.Test.YtfekmlblldhieaaDoorJ17f
import Derived.Test.YtfekmlblldhieaaDoorMcZ
import Derived.Test.YtfekmlblldhieaaDoorMcL
import Derived.Test.YtfekmlblldhieaaDoorYe
namespace Go.Proofs.YtfekmlblldhieaaDoor.Wt
open Go.ChangeShapes Go.WideShapes Go.ChangeAt Go.RowKit
open Go.Proofs.YtfekmlblldhieaaDoor.Pl
set_option linter.unusedVariables false
set_option linter.unusedSimpArgs false
theorem fF_empK (l : List St) : fF l l.length = !empB l := by
  unfold fF empB
  rw [List.take_length, Bool.eq_iff_iff]
  simp only [List.all_eq_true, Bool.not_eq_true', List.any_eq_false, Bool.not_eq_true, fullA]
theorem res_cerK (tm : Array Value) (W : World) (R : Nat) (ec : Int) (x0 x1 : Value) (hB : Blk W R #[x0, x1] 24) (h2 : tm.getD 2 undef = .pointer (some ⟨R, 0, none⟩)) (h3 : tm.getD 3 undef = .int .i64 ec) : (results Tryd.f8 tm).run Tryd.prog W = .ok (.tuple #[.agg #[x0, x1], .int .i64 ec]) W := by
  have c0 := hB.cell 0 (v := x0) rfl
  have c1 := hB.cell 1 (v := x1) rfl
  simp only [Array.getD_eq_getD_getElem?] at h2 h3
  simp [results, Tryd.results8, go_sem, h2, h3, c0, c1]
set_option maxRecDepth 100000 in
theorem certR_bad (v : Value) (m : Mc) (w : World) (h : Mach w v m) (hok : okM m) (r : Int) (hr : faultM m = r) (h0 : ¬ r = 0) :
    Calls Tryd.prog 8 #[v] w fun e w' => RatRes (0, []) r w e w' := by
  have HLK := hidP (fun W (hW : Below w.heap.size w W) => like_bad v m W (h.later hW (Nat.le_refl _)) hok r hr h0)
  obtain ⟨vs, rfl, hS⟩ := h
  obtain ⟨a, cap, rfl⟩ := hS.sl
  have hrn : (r != 0) = true := by simpa using h0
  clear hS hok hr h0
  generalize m.2.length = n at *
  generalize m.1 = z at *
  go_enter Tryd.func8, Tryd.ntmps8
  go_wp2_with (first
    | (go_at_call 17; (with_reducible refine (HLK.out _ (by go_grown)).mono ?_); rintro e w1 ⟨rfl, hb⟩; obtain ⟨s1, k0, k1, hb1⟩ := boxedTwo hb (by simp); have HB1 := hidP hb1; have K1 := hidP k1; have e0 := k1.cell 0 (v := .int .i64 0) rfl; have e1 := k1.cell 1 (v := .slice none 0 0) rfl; have g0 := k1.fz 0; have g1 := k1.fz 1; have l1 := k1.lt; clear hb hb1 k0 k1 HLK))
  exact bodyPost_ret (res_cerK _ _ (w.heap.size + 1) r _ _ (((K1.out.set 0 (.int .i64 0)).set 1 (.slice none 0 0)).alloc _) rfl rfl) rfl ⟨_, rfl, mach_zeroR _, ((HB1.out.setCell (p := ⟨w.heap.size + 1, 0, none⟩) (by show w.heap.size ≤ w.heap.size + 1; omega) _).setCell (p := ⟨w.heap.size + 1, 1, none⟩) (by show w.heap.size ≤ w.heap.size + 1; omega) _).alloc (by simp [World.setCell]; omega) _⟩
set_option maxRecDepth 100000 in
theorem certR_emp (z : Int) (a : Option Addr) (cap : Nat) (l : List St) (w : World) (hM : Mach w (.agg #[.int .i64 z, .slice a l.length cap]) (z, l)) (hok : okM (z, l)) (hr : faultM (z, l) = 0) (he : empB l = true ∨ (empB l = false ∧ z < 0)) :
    Calls Tryd.prog 8 #[.agg #[.int .i64 z, .slice a l.length cap]] w fun e w' => RatRes (if empB l = true then (0, []) else (-1, [])) (if empB l = true then 7 else 0) w e w' := by
  have HM := hidP hM
  have HK := hidP hok
  have HR := hidP hr
  obtain ⟨vs', hv', hSt⟩ := hM
  obtain ⟨a9, cap9, hv9, hc9⟩ := hSt.get
  subst hv9
  simp only [Value.agg.injEq, Array.mk.injEq, List.cons.injEq, and_true, true_and, Value.slice.injEq] at hv'
  obtain ⟨ea, ec⟩ := hv'
  subst ea
  subst ec
  simp only at hc9
  have HC := hidP hc9
  have HLK : Hid (∀ W, Below w.heap.size w W → Calls Tryd.prog 17 #[.agg #[.int .i64 z, .slice a l.length cap]] W fun e w' => e = .returned (.tuple #[.agg (flags (fA l l.length) (!empB l) (fC l l.length) (fS l l.length) (fP l l.length)), .int .i64 0]) ∧ Below W.heap.size W w') := fun W hW => by
    have := like_ok z a cap l W (HM.out.later hW (Nat.le_refl _)) HK.out HR.out (fun j hj => by
      obtain ⟨b, off, va, h1, h2, h3, h4, h5⟩ := HC.out j hj
      exact ⟨b, off, va, h1, Nat.lt_of_lt_of_le h2 hW.size, (hW.cell (p := ⟨b, off + j * 2, none⟩) h2).trans h3, (hW.cell (p := ⟨b, off + j * 2 + 1, none⟩) h2).trans h4, h5.later hW (Nat.le_refl _)⟩)
    rw [fF_empK] at this
    exact this
  generalize fA l l.length = b1 at *
  generalize fC l l.length = b3 at *
  generalize fS l l.length = b4 at *
  generalize fP l l.length = b5 at *
  clear hSt hc9 hok hr HC HM HK HR
  generalize l.length = n at *
  simp only [flags] at HLK
  have HNO : Hid (∀ W : World, Mach W (.agg #[.int .i64 (-1), .slice none 0 0]) (-1, [])) := fun W => ⟨_, rfl, (OwnSts.nil W 0).sts⟩
  have hnot : ∀ (x : Bool) (w : World), (Op.unary .not (.bool x)).run Tryd.prog w = .ok (.bool (!x)) w := fun _ _ => rfl
  rcases he with he | ⟨he, hz⟩
  · rw [he] at HLK
    rw [if_pos he, if_pos he]
    simp only [Bool.not_true] at HLK
    clear he
    go_enter Tryd.func8, Tryd.ntmps8
    go_wp2_with (first
      | (go_at_call 17; (with_reducible refine (HLK.out _ (by go_grown)).mono ?_); rintro e w1 ⟨rfl, hb⟩; obtain ⟨s1, k0, k1, hb1⟩ := boxedTwo hb (by simp); have HB1 := hidP hb1; have K1 := hidP k1; have e0 := k1.cell 0 (v := .int .i64 0) rfl; have e1 := k1.cell 1 (v := .slice none 0 0) rfl; have g0 := k1.fz 0; have g1 := k1.fz 1; have l1 := k1.lt; clear hb hb1 k0 k1 HLK))
    exact bodyPost_ret (res_cerK _ _ (w.heap.size + 1) 7 _ _ (((K1.out.set 0 (.int .i64 0)).set 1 (.slice none 0 0)).alloc _) rfl rfl) rfl ⟨_, rfl, mach_zeroR _, ((HB1.out.setCell (p := ⟨w.heap.size + 1, 0, none⟩) (by show w.heap.size ≤ w.heap.size + 1; omega) _).setCell (p := ⟨w.heap.size + 1, 1, none⟩) (by show w.heap.size ≤ w.heap.size + 1; omega) _).alloc (by simp [World.setCell]; omega) _⟩
  · rw [he] at HLK
    rw [if_neg (by rw [he]; simp), if_neg (by rw [he]; simp)]
    simp only [Bool.not_false] at HLK
    clear he
    go_enter Tryd.func8, Tryd.ntmps8
    go_wp2_with (first
      | (go_at_call 17; (with_reducible refine (HLK.out _ (by go_grown)).mono ?_); rintro e w1 ⟨rfl, hb⟩; obtain ⟨s1, k0, k1, hb1⟩ := boxedTwo hb (by simp); have HB1 := hidP hb1; have K1 := hidP k1; have c0 := k0.cell 0 (v := .int .i64 z) rfl; have l0 := k0.lt; have e0 := k1.cell 0 (v := .int .i64 0) rfl; have e1 := k1.cell 1 (v := .slice none 0 0) rfl; have g0 := k1.fz 0; have g1 := k1.fz 1; have l1 := k1.lt; clear hb hb1 k0 k1 HLK))
    exact bodyPost_ret (res_cerK _ _ (w.heap.size + 1) 0 _ _ (((K1.out.set 0 (.int .i64 (-1))).set 1 (.slice none 0 0)).alloc _) rfl rfl) rfl ⟨_, rfl, HNO.out _, ((HB1.out.setCell (p := ⟨w.heap.size + 1, 0, none⟩) (by show w.heap.size ≤ w.heap.size + 1; omega) _).setCell (p := ⟨w.heap.size + 1, 1, none⟩) (by show w.heap.size ≤ w.heap.size + 1; omega) _).alloc (by simp [World.setCell]; omega) _⟩
end Go.Proofs.YtfekmlblldhieaaDoor.Wt
namespace Go.Proofs.YtfekmlblldhieaaDoor.Wt
open Go.ChangeShapes Go.WideShapes Go.ChangeAt Go.RowKit
open Go.Proofs.YtfekmlblldhieaaDoor.Pl
set_option linter.unusedVariables false
theorem certR_any (v : Value) (m : Mc) (w : World) (h : Mach w v m) (hok : okM m) :
    Calls Tryd.prog 8 #[v] w fun e w' => RatRes (cerA m).1 (cerA m).2 w e w' := by
  by_cases fa : faultM m = 0
  · obtain ⟨z, l⟩ := m
    have h2 := h
    obtain ⟨vs, rfl, hS⟩ := h2
    obtain ⟨a, cap, rfl⟩ := hS.sl
    by_cases he : empB l = true
    · have h9 := certR_emp z a cap l w h hok fa (.inl he)
      rw [if_pos he, if_pos he] at h9
      have e : cerA (z, l) = ((0, []), 7) := by unfold cerA; rw [if_neg (fun g => g fa), if_pos he]
      rw [e]
      exact h9
    · have he' : empB l = false := by simpa using he
      by_cases hz : z < 0
      · have h9 := certR_emp z a cap l w h hok fa (.inr ⟨he', hz⟩)
        rw [if_neg he, if_neg he] at h9
        have e : cerA (z, l) = ((-1, []), 0) := by unfold cerA; rw [if_neg (fun g => g fa), if_neg he, if_pos hz]
        rw [e]
        exact h9
      · exact certR_ok z a cap l w h hok fa he' (by omega)
  · have e : cerA m = ((0, []), faultM m) := by unfold cerA; rw [if_pos fa]
    rw [e]
    exact certR_bad v m w h hok _ rfl fa
end Go.Proofs.YtfekmlblldhieaaDoor.Wt
