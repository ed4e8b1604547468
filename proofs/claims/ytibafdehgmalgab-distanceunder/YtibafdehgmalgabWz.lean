/- weigh.checkAll, Weigh: what words cost. -/
import Derived.Test.YtibafdehgmalgabJ13r
import Derived.Test.YtibafdehgmalgabZl
import Derived.Test.YtibafdehgmalgabJ13b
namespace Go.Proofs.Ytibafdehgmalgab.Wt
open Go.ChangeShapes Go.WideShapes Go.ChangeAt Go.RowKit
open Go.Proofs.Ytibafdehgmalgab.Pl
set_option linter.unusedVariables false
set_option linter.unusedSimpArgs false
def allE (m : Mc) (ws : List (List Int)) : Int := if faultM m ≠ 0 then faultM m else wdsE ws
set_option maxRecDepth 100000 in
set_option maxHeartbeats 1600000 in
theorem checkAll_any (v : Value) (m : Mc) (b : Nat) (vws : List Value) (ws : List (List Int)) (n : Nat) (w : World) (h : Mach w v m) (hok : okM m) (hw : WdsAt w b vws ws) (hn : ws.length = n) (hn2 : n ≤ 10) (r : Int) (hr : allE m ws = r) :
    Calls Try.prog 24 #[v, .slice (some ⟨b, 0, none⟩) n n] w fun e w' => e = .returned (.int .i64 r) ∧ Below w.heap.size w w' := by
  obtain ⟨z, l⟩ := m
  have HM : Hid (Mach w v (z, l)) := h
  obtain ⟨vs, rfl, hS⟩ := h
  obtain ⟨a, cap, rfl⟩ := hS.sl
  have HCK : Hid (∀ W, Below w.heap.size w W → Calls Try.prog 11 #[.agg #[.int .i64 z, .slice a l.length cap]] W fun e w' => e = .returned (.int .i64 (faultM (z, l))) ∧ Below W.heap.size W w') := fun W hW => coreCheck_any _ (z, l) W (HM.out.later hW (Nat.le_refl _)) hok _ rfl
  have HCW : Hid (∀ W, Below w.heap.size w W → Calls Try.prog 33 #[.slice (some ⟨b, 0, none⟩) n n] W fun e w' => e = .returned (.int .i64 (wdsE ws)) ∧ W = w') := fun W hW => checkWords_any b vws ws n W (hw.later hW (Nat.le_refl _)) hn hn2
  unfold allE at hr
  clear hS hok hw hn HM
  generalize l.length = ln at *
  generalize faultM (z, l) = f at *
  generalize wdsE ws = e at *
  by_cases hf : f = 0
  · rw [if_neg (by simp [hf])] at hr
    subst hr
    subst hf
    go_enter Try.func24, Try.ntmps24
    go_wp2_with (first
      | (go_at_call 11; (with_reducible refine (HCK.out _ (by go_grown)).mono ?_); rintro e1 w1 ⟨rfl, hb⟩; obtain ⟨s1, b1, hb1⟩ := boxed hb (by simp); have HB1 := hidP hb1; clear hb b1 hb1)
      | (go_at_call 33; (with_reducible refine (HCW.out _ HB1.out).mono ?_); rintro e1 w2 ⟨rfl, rfl⟩))
    go_ret
    exact ⟨rfl, HB1.out⟩
  · rw [if_pos hf] at hr
    subst hr
    go_enter Try.func24, Try.ntmps24
    go_wp2_with (first
      | (go_at_call 11; (with_reducible refine (HCK.out _ (by go_grown)).mono ?_); rintro e1 w1 ⟨rfl, hb⟩; obtain ⟨s1, b1, hb1⟩ := boxed hb (by simp); have HB1 := hidP hb1; clear hb b1 hb1))
    go_ret
    exact ⟨rfl, HB1.out⟩
theorem words2 {w : World} {vx vy : Value} {x y : List Int} {b : Nat} (hb : Blk w b #[vx, vy] 25) (nx : Nums w vx x) (ny : Nums w vy y) : WdsAt w b [vx, vy] [x, y] := by
  refine ⟨hb, rfl, fun j hj => ?_⟩
  have : j = 0 ∨ j = 1 := by simp at hj; omega
  rcases this with rfl | rfl
  · exact nx
  · exact ny
theorem words1 {w : World} {vx : Value} {x : List Int} {b : Nat} (hb : Blk w b #[vx] 25) (nx : Nums w vx x) : WdsAt w b [vx] [x] := by
  refine ⟨hb, rfl, fun j hj => ?_⟩
  have : j = 0 := by simp at hj; omega
  subst this
  exact nx
theorem cro_short {x y : List Int} (h : croE x y = 0) : x.length ≤ 12 ∧ y.length ≤ 12 := by
  have hx0 : wrdE x = 0 := by
    by_cases g : wrdE x = 0
    · exact g
    · unfold croE at h; rw [if_pos g] at h; exact h
  have hy0 : wrdE y = 0 := by unfold croE at h; rw [if_neg (by simp [hx0])] at h; exact h
  exact ⟨(wrd_parts hx0).1, (wrd_parts hy0).1⟩
set_option maxRecDepth 100000 in
set_option maxHeartbeats 1600000 in
theorem weighP_any (v vx vy : Value) (m : Mc) (x y : List Int) (w : World) (h : Mach w v m) (hok : okM m) (nx : Nums w vx x) (ny : Nums w vy y) :
    Calls Try.prog 15 #[v, vx, vy] w fun e w' => ∃ n ec : Int, e = .returned (.tuple #[.int .i64 n, .int .i64 ec]) ∧ WgR (Costs m x y) (wghE2 m x y) n ec ∧ Below w.heap.size w w' := by
  obtain ⟨z, l⟩ := m
  have HM : Hid (Mach w v (z, l)) := h
  obtain ⟨vs, rfl, hS⟩ := h
  obtain ⟨a, cap, rfl⟩ := hS.sl
  obtain ⟨ax, cx, hvx, _⟩ := nx.get
  obtain ⟨ay, cy, hvy, _⟩ := ny.get
  have HCA : Hid (∀ W b, Below w.heap.size w W → Blk W b #[vx, vy] 25 → Calls Try.prog 24 #[.agg #[.int .i64 z, .slice a l.length cap], .slice (some ⟨b, 0, none⟩) 2 2] W fun e w' => e = .returned (.int .i64 (wghE2 (z, l) x y)) ∧ Below W.heap.size W w') := fun W b hW hb => checkAll_any _ (z, l) b [vx, vy] [x, y] 2 W (HM.out.later hW (Nat.le_refl _)) hok (words2 hb (nx.later hW (Nat.le_refl _)) (ny.later hW (Nat.le_refl _))) rfl (by omega) _ (by unfold allE wghE2; rw [wds_two])
  have HCO : Hid (wghE2 (z, l) x y = 0 → ∀ W, Below w.heap.size w W → Calls Try.prog 25 #[.agg #[.int .i64 z, .slice a l.length cap], vx, vy] W fun e w' => ∃ n ec : Int, e = .returned (.tuple #[.int .i64 n, .int .i64 ec]) ∧ WghAns (Costs (z, l) x y) n ec ∧ Below W.heap.size W w') := fun h0 W hW => by
    unfold wghE2 at h0
    have hf : faultM (z, l) = 0 := by
      by_cases g : faultM (z, l) = 0
      · exact g
      · rw [if_pos g] at h0; exact h0
    rw [if_neg (by simp [hf])] at h0
    obtain ⟨q1, q2⟩ := cro_short h0
    exact costP_any _ vx vy (z, l) x y W (HM.out.later hW (Nat.le_refl _)) hf (nx.later hW (Nat.le_refl _)) (ny.later hW (Nat.le_refl _)) q1 q2
  have k1 := Blk.made (w.alloc (.cells #[.int .i64 z, .slice a l.length cap] 28)) #[vx, vy] 25
  have k2 : Below w.heap.size w ((w.alloc (.cells #[.int .i64 z, .slice a l.length cap] 28)).alloc (.cells #[vx, vy] 25)) := ((Below.refl w.heap.size w).alloc (Nat.le_refl _) _).alloc (by simp) _
  simp only [World.size_alloc] at k1
  have HC0 := hidP (HCA.out _ _ k2 k1)
  clear hS hok nx ny HM k1 k2 HCA
  generalize l.length = ln at *
  unfold WgR
  simp only
  generalize wghE2 (z, l) x y = r at *
  generalize Costs (z, l) x y = P at *
  subst hvx
  subst hvy
  by_cases hr : r = 0
  · subst hr
    have HCO2 := hidP (HCO.out rfl)
    simp only [if_true]
    clear HCO
    go_enter Try.func15, Try.ntmps15
    go_wp2_with (first
      | (go_at_call 24; (with_reducible refine HC0.out.mono ?_); rintro e1 w1 ⟨rfl, hb⟩; obtain ⟨s1, b1, _, hb1⟩ := boxedTwo hb (by simp); have HB1 := hidP hb1; have c0 := b1.cell 0 (v := .int .i64 z) rfl; have c1 := b1.cell 1 (v := .slice a ln cap) rfl; clear hb b1 hb1)
      | (go_at_call 25; (with_reducible refine (HCO2.out _ HB1.out).mono ?_); rintro e1 w2 ⟨n, ec, rfl, ha, hb2⟩; have HA := hidP ha; have HB2 := hidP (HB1.out.trans (hb2.mono HB1.out.size)); clear ha hb2))
    exact bodyPost_ret (v := .tuple #[.int .i64 n, .int .i64 ec]) (by simp [results, Try.results15, go_sem, *]) rfl ⟨n, ec, rfl, HA.out, HB2.out⟩
  · simp only [if_neg hr]
    clear HCO
    go_enter Try.func15, Try.ntmps15
    go_wp2_with (first
      | (go_at_call 24; (with_reducible refine HC0.out.mono ?_); rintro e1 w1 ⟨rfl, hb⟩; obtain ⟨s1, b1, _, hb1⟩ := boxedTwo hb (by simp); have HB1 := hidP hb1; clear hb b1 hb1))
    exact bodyPost_ret (v := .tuple #[.int .i64 0, .int .i64 r]) (by simp [results, Try.results15, go_sem, *]) rfl ⟨0, r, rfl, ⟨rfl, rfl⟩, HB1.out⟩
end Go.Proofs.Ytibafdehgmalgab.Wt
