/- A mark along an arc; a mark put to others. -/
import Derived.Test.YtkeeiihaijhdoaaSkl
namespace Go.Proofs.Ytkeeiihaijhdoaa.Sm
open Go.ChangeShapes Go.WideShapes Go.ChangeAt Go.RowKit Go.Maps
open Go.Proofs.Ytkeeiihaijhdoaa.Pl Go.Proofs.Ytkeeiihaijhdoaa.Wt
set_option linter.unusedVariables false
set_option linter.unusedSimpArgs false
theorem MpK.lookS {w : World} {m : Nat} {T : Tbl} {ks : List Int} (h : MpK w m T ks) {q : Int} (hq : wfI q) :
    (∀ k, T q = some k → ∃ (a : Option Addr) (c : Nat), (Instr.lookup 61 (.map (some m)) (.int .i64 q) true).run Try.prog w = .ok (.tuple #[.agg #[.int .i64 q, .int .i64 k.1, .slice a k.2.length c], .bool true]) w ∧ Nums w (.slice a k.2.length c) k.2) ∧
    (T q = none → (Instr.lookup 61 (.map (some m)) (.int .i64 q) true).run Try.prog w = .ok (.tuple #[.agg #[.int .i64 0, .int .i64 0, .slice none 0 0], .bool false]) w) := by
  obtain ⟨h1, h2⟩ := h.look hq
  refine ⟨fun k hk => ?_, h2⟩
  obtain ⟨x, g1, g2⟩ := h1 k hk
  obtain ⟨a, c, hx, hn⟩ := g2.mv
  rw [hx] at g1
  exact ⟨a, c, g1, hn⟩
theorem OwnN.setB {w : World} {base : Nat} {v : Value} {l : List Int} (h : OwnN w base v l) {b : Nat} {cs : Array Value} {t : TypeId} (hb : Blk w b cs t) (ht : 3 ≠ t) (o : Nat) (u : Value) : OwnN (w.setCell ⟨b, o, none⟩ u) base v l :=
  World.ownsRow.kept h (gSet w b o u) (.inr (Ne.symm (own_ne h hb ht)))
set_option maxRecDepth 100000 in
set_option maxHeartbeats 1600000 in
theorem along_any (v : Value) (k : Mk) (a : Ar) (w : World) (h : MkIs w v k) (hs : k.2.2.length ≤ 1000000) (h0 : 0 ≤ k.2.1) (h1 : k.2.1 ≤ 1000000000000000) (h2 : 0 ≤ a.2.2.1) (h3 : a.2.2.1 ≤ 1000000000000) :
    Calls Try.prog 60 #[v, .agg #[.int .i64 a.1, .int .i64 a.2.1, .int .i64 a.2.2.1, .int .i64 a.2.2.2]] w fun e w' => ∃ vo, e = .returned (.agg #[.int .i64 a.2.2.2, .int .i64 (goA k.2 a).1, vo]) ∧ OwnN w' w.heap.size vo (goA k.2 a).2 ∧ Below w.heap.size w w' := by
  have HV := hidP h
  obtain ⟨q, x, l⟩ := k
  obtain ⟨a0, a1, a2, a3⟩ := a
  obtain ⟨vo, rfl, hn⟩ := h
  simp only at hn hs h0 h1 h2 h3 ⊢
  obtain ⟨al, cl, rfl⟩ := Row.sl hn
  clear hn
  have HU : Hid (Below w.heap.size w (((w.alloc (.cells #[.int .i64 q, .int .i64 x, .slice al l.length cl] 67)).alloc (.cells #[.int .i64 a0, .int .i64 a1, .int .i64 a2, .int .i64 a3] 75)).alloc (.cells #[.int .i64 0, .int .i64 0, .slice none 0 0] 67))) := by show Below _ _ _; go_grown
  by_cases hz : a1 = 0
  · have HG : Hid (goA (x, l) (a0, a1, a2, a3) = (x + a2, l)) := by show _ = _; simp [goA, hz]
    rw [HG.out]
    subst hz
    go_enter Try.func60, Try.ntmps60
    go_wp2_with (first
      | (go_at_call 53; (with_reducible refine (copied_any _ (q, x, l) _ (HV.out.later HU.out (Nat.le_refl _)) (by simp only; omega)).mono ?_); rintro e w1 ⟨v1, rfl, ho, hb⟩; have HO : Hid (OwnN w1 (w.heap.size + 3) v1 l) := (by show OwnN _ _ _ _; simpa using ho); obtain ⟨c1, k1, rfl⟩ := ho.sl; obtain ⟨s1, b1, b2, b3, hb1⟩ := boxedThree hb (by simp); have HB1 := hidP hb1; have e0 := b2.cell 0 (v := .int .i64 a0) rfl; have e1 := b2.cell 1 (v := .int .i64 0) rfl; have e2 := b2.cell 2 (v := .int .i64 a2) rfl; have e3 := b2.cell 3 (v := .int .i64 a3) rfl; have d0 := b3.cell 0 (v := .int .i64 0) rfl; have d1 := b3.cell 1 (v := .int .i64 0) rfl; have d2 := b3.cell 2 (v := .slice none 0 0) rfl; have g0 := b3.fz 0; have g1 := b3.fz 1; have g2 := b3.fz 2; have z2 : w.heap.size + 2 < w1.heap.size := (by omega); have z1 : w.heap.size + 1 < w1.heap.size := (by omega); clear b1 b2 b3 hb1 hb ho))
    exact bodyPost_ret (v := .agg #[.int .i64 a3, .int .i64 (x + a2), .slice c1 l.length k1]) (by simp [results, Try.results60, go_sem, *]) rfl ⟨_, rfl, OwnN.mono (((((HO.out.set (by show w.heap.size + 2 < _; omega) _).set (by show w.heap.size + 2 < _; omega) _).set (by show w.heap.size + 2 < _; omega) _)).later ((Below.refl _ _).alloc (Nat.le_refl _) _)) (by omega), by have h9 := HB1.out; go_grown⟩
  · have HG : Hid (goA (x, l) (a0, a1, a2, a3) = (x + a2, l ++ [a1])) := by show _ = _; simp [goA, hz]
    rw [HG.out]
    go_enter Try.func60, Try.ntmps60
    go_wp2_with (first
      | (go_at_call 53; (with_reducible refine (copied_any _ (q, x, l) _ (HV.out.later HU.out (Nat.le_refl _)) (by simp only; omega)).mono ?_); rintro e w1 ⟨v1, rfl, ho, hb⟩; have HO : Hid (OwnN w1 (w.heap.size + 3) v1 l) := (by show OwnN _ _ _ _; simpa using ho); obtain ⟨c1, k1, rfl⟩ := ho.sl; obtain ⟨s1, b1, b2, b3, hb1⟩ := boxedThree hb (by simp); have HB1 := hidP hb1; have B3 := hidP b3; have HW5 : OwnN (w1.alloc (.cells #[.int .i64 a3, .int .i64 (x + a2), .slice c1 l.length k1] 67)) (w.heap.size + 3) (.slice c1 l.length k1) l := HO.out.later ((Below.refl _ _).alloc (Nat.le_refl _) _); obtain ⟨a5, k5, w5, r5, o5, hb5, hg5⟩ := HW5.push a1 (by omega) (by simp; omega); have BW : Blk (w1.alloc (.cells #[.int .i64 a3, .int .i64 (x + a2), .slice c1 l.length k1] 67)) w1.heap.size #[.int .i64 a3, .int .i64 (x + a2), .slice c1 l.length k1] 67 := Blk.made w1 _ _; have HBW : Hid (Blk w5 w1.heap.size #[.int .i64 a3, .int .i64 (x + a2), .slice c1 l.length k1] 67) := (BW.alloc _).grown hg5 (own_ne HW5 BW (by decide)); simp only [World.size_alloc] at r5; have HR5 := hidP r5; have HO5 := hidP o5; have HB5 : Hid (Below w.heap.size w w5) := (by show Below _ _ _; exact hb1.trans ((((Below.refl _ _).alloc (Nat.le_refl _) _).mono hb1.size).trans (hb5.mono (by omega)))); have HB53 : Hid (Blk w5 (w.heap.size + 2) #[.int .i64 0, .int .i64 0, .slice none 0 0] 67) := (b3.alloc _).below hb5 (by omega); have zz5 := hb5.size; simp only [World.size_alloc] at zz5; have u0 := HBW.out.cell 0 (v := .int .i64 a3) rfl; have u1 := HBW.out.cell 1 (v := .int .i64 (x + a2)) rfl; have u2 := HBW.out.cell 2 (v := .slice c1 l.length k1) rfl; have t0 := HBW.out.fz 2; have y0 := HB53.out.cell 0 (v := .int .i64 0) rfl; have y1 := HB53.out.cell 1 (v := .int .i64 0) rfl; have y2 := HB53.out.cell 2 (v := .slice none 0 0) rfl; have x0 := HB53.out.fz 0; have x1 := HB53.out.fz 1; have x2 := HB53.out.fz 2; have zn1 : ¬ w.heap.size + 2 = w1.heap.size := (by omega); clear HW5 BW r5 o5 hb5 hg5; have e0 := b2.cell 0 (v := .int .i64 a0) rfl; have e1 := b2.cell 1 (v := .int .i64 a1) rfl; have e2 := b2.cell 2 (v := .int .i64 a2) rfl; have e3 := b2.cell 3 (v := .int .i64 a3) rfl; have d0 := b3.cell 0 (v := .int .i64 0) rfl; have d1 := b3.cell 1 (v := .int .i64 0) rfl; have d2 := b3.cell 2 (v := .slice none 0 0) rfl; have g0 := b3.fz 0; have g1 := b3.fz 1; have g2 := b3.fz 2; have z2 : w.heap.size + 2 < w1.heap.size := (by omega); have z1 : w.heap.size + 1 < w1.heap.size := (by omega); clear b1 b2 b3 hb1 hb ho)
      | (at_builtin; refine wpListAppendRun rfl _ _ 35 rfl rfl rfl HR5.out ?_; clear HR5))
    exact bodyPost_ret (v := .agg #[.int .i64 a3, .int .i64 (x + a2), .slice a5 (l.length + 1) k5]) (by simp [results, Try.results60, go_sem, *]) rfl ⟨_, rfl, OwnN.mono (((((HO5.out.setB HBW.out (by decide) 2 _).set (by show w.heap.size + 2 < _; omega) _).set (by show w.heap.size + 2 < _; omega) _).set (by show w.heap.size + 2 < _; omega) _)) (by omega), by have h9 := HB5.out; go_grown⟩
end Go.Proofs.Ytkeeiihaijhdoaa.Sm
