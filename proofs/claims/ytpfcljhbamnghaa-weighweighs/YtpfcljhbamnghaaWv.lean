/- The reference: what a machine costs for words. -/
import Derived.Test.YtpfcljhbamnghaaWc
import Derived.Test.YtpfcljhbamnghaaWe
import Derived.Test.YtpfcljhbamnghaaPlainWn
import Derived.Test.YtpfcljhbamnghaaPlainTv
namespace Go.Proofs.Ytpfcljhbamnghaa.Wt
open Go.ChangeShapes Go.WideShapes Go.ChangeAt Go.RowKit
open Go.Proofs.Ytpfcljhbamnghaa.Pl
set_option linter.unusedVariables false
set_option linter.unusedSimpArgs false
set_option maxRecDepth 100000 in
theorem weighedReads_bad0 (v vx : Value) (m : Mc) (r : Int) (w : World) (h : Mach w v m) (hok : okM m) (hr0 : faultM m = r) (hr : r ≠ 0) :
    Calls Try.prog 19 #[v, vx] w fun e w' => e = .returned (.tuple #[.int .i64 0, .int .i64 r]) ∧ Below w.heap.size w w' := by
  obtain ⟨z, l⟩ := m
  have HM : Hid (Mach w v (z, l)) := h
  have HK : Hid (okM (z, l)) := hok
  have HR := hidP hr0
  have t0 : (r != 0) = true := bne_iff_ne.2 hr
  have t1 : (r == 0) = false := by simpa using hr
  obtain ⟨vs, rfl, hS⟩ := h
  obtain ⟨a, cap, rfl⟩ := hS.sl
  clear hS hok hr0 hr
  go_enter Try.func19, Try.ntmps19
  go_wp2_with (first
    | (go_at_call 32; (with_reducible refine (fault_any _ (z, l) _ (HM.out.later (B := w.heap.size) (by go_grown) (Nat.le_refl _)) HK.out r HR.out).mono ?_); rintro e wa ⟨rfl, hb⟩; obtain ⟨sa, b1, hb1⟩ := boxed hb (by simp); have HBa := hidP hb1; have KSa := hidP b1; have c0 := b1.cell 0 (v := .int .i64 z) rfl; have c1 := b1.cell 1 (v := .slice a l.length cap) rfl; clear b1 hb1 hb))
  go_ret2
  exact ⟨rfl, HBa.out⟩
set_option maxRecDepth 100000 in
theorem weighedReads_bad1 (v vx : Value) (m : Mc) (r : Int) (w : World) (h : Mach w v m) (hok : okM m) (hr0 : faultM m = 0) (hx : WFr w vx r) (hr : r ≠ 0) :
    Calls Try.prog 19 #[v, vx] w fun e w' => e = .returned (.tuple #[.int .i64 0, .int .i64 r]) ∧ Below w.heap.size w w' := by
  obtain ⟨z, l⟩ := m
  have HM : Hid (Mach w v (z, l)) := h
  have HK : Hid (okM (z, l)) := hok
  have HR := hidP hr0
  have Fx := hidP hx
  clear hx
  have t0 : (r != 0) = true := bne_iff_ne.2 hr
  have t1 : (r == 0) = false := by simpa using hr
  obtain ⟨vs, rfl, hS⟩ := h
  obtain ⟨a, cap, rfl⟩ := hS.sl
  clear hS hok hr0 hr
  go_enter Try.func19, Try.ntmps19
  go_wp2_with (first
    | (go_at_call 32; (with_reducible refine (fault_any _ (z, l) _ (HM.out.later (B := w.heap.size) (by go_grown) (Nat.le_refl _)) HK.out 0 HR.out).mono ?_); rintro e wa ⟨rfl, hb⟩; obtain ⟨sa, b1, hb1⟩ := boxed hb (by simp); have HBa := hidP hb1; have KSa := hidP b1; have c0 := b1.cell 0 (v := .int .i64 z) rfl; have c1 := b1.cell 1 (v := .slice a l.length cap) rfl; clear b1 hb1 hb)
    | (go_at_call 26; (with_reducible refine (Fx.out _ HBa.out).mono ?_); rintro e w' ⟨rfl, rfl⟩))
  go_ret2
  exact ⟨rfl, HBa.out⟩
set_option maxRecDepth 100000 in
theorem weighedReads_ok (v vx : Value) (m : Mc) (x : List Int) (w : World) (h : Mach w v m) (hok : okM m) (hr0 : faultM m = 0) (nx : Nums w vx x) (ex : wrdE x = 0) :
    Calls Try.prog 19 #[v, vx] w fun e w' => ∃ n ec : Int, e = .returned (.tuple #[.int .i64 n, .int .i64 ec]) ∧ WghAns (CostsR m x) n ec ∧ Below w.heap.size w w' := by
  have HCH : Hid (∀ W, Below w.heap.size w W → Calls Try.prog 33 #[v, vx, .slice none 0 0, .bool true] W fun e w' => ∃ b : Int, e = .returned (.int .i64 b) ∧ ChpAns (CostsR m x) b ∧ Below W.heap.size W w') := fun W hW => cheapest_free _ vx m x W (h.later hW (Nat.le_refl _)) hr0 (nx.later hW (Nat.le_refl _)) ex
  have Fx : Hid (WFr w vx 0) := by
    have := WFr.of nx
    rw [ex] at this
    exact this
  obtain ⟨z, l⟩ := m
  have HM : Hid (Mach w v (z, l)) := h
  have HK : Hid (okM (z, l)) := hok
  have HR := hidP hr0
  obtain ⟨vs, rfl, hS⟩ := h
  obtain ⟨a, cap, rfl⟩ := hS.sl
  clear hS hok hr0 nx ex
  have HWG : Hid (∀ b, ChpAns (CostsR (z, l) x) b → WghAns (CostsR (z, l) x) (if b = noneI then 1000000001 else if 1000000000 < b then 0 else b) (if b = noneI then 0 else if 1000000000 < b then 4 else 0)) := fun b hb => hb.wgh
  go_enter Try.func19, Try.ntmps19
  go_wp2_with (first
    | (go_at_call 32; (with_reducible refine (fault_any _ (z, l) _ (HM.out.later (B := w.heap.size) (by go_grown) (Nat.le_refl _)) HK.out 0 HR.out).mono ?_); rintro e wa ⟨rfl, hb⟩; obtain ⟨sa, b1, hb1⟩ := boxed hb (by simp); have HBa := hidP hb1; have KSa := hidP b1; have c0 := b1.cell 0 (v := .int .i64 z) rfl; have c1 := b1.cell 1 (v := .slice a l.length cap) rfl; clear b1 hb1 hb)
    | (go_at_call 26; (with_reducible refine (Fx.out _ HBa.out).mono ?_); rintro e w' ⟨rfl, rfl⟩)
    | (go_at_call 33; (with_reducible refine (HCH.out _ HBa.out).mono ?_); rintro e wc ⟨b, rfl, hp, hb⟩; have HWB := hidP (HWG.out b hp); have HBc := hidP (HBa.out.trans (hb.mono HBa.out.size)); clear hp hb)
    | (go_at_call 34; (with_reducible refine (told_ans _ _).mono ?_); rintro e w' ⟨rfl, rfl⟩; generalize (if b = noneI then (1000000001 : Int) else if 1000000000 < b then 0 else b) = n9 at *; generalize (if b = noneI then (0 : Int) else if 1000000000 < b then 4 else 0) = e9 at *))
  go_ret2
  exact ⟨_, _, rfl, HWB.out, HBc.out⟩
theorem weighedReads_any (v vx : Value) (m : Mc) (x : List Int) (w : World) (h : Mach w v m) (hok : okM m) (nx : Nums w vx x) :
    Calls Try.prog 19 #[v, vx] w fun e w' => ∃ n ec : Int, e = .returned (.tuple #[.int .i64 n, .int .i64 ec]) ∧ WgR (CostsR m x) (wghE1 m x) n ec ∧ Below w.heap.size w w' := by
  have bad : ∀ {r : Int}, r ≠ 0 → (wghE1 m x) = r → (Calls Try.prog 19 #[v, vx] w fun e w' => e = .returned (.tuple #[.int .i64 0, .int .i64 r]) ∧ Below w.heap.size w w') → Calls Try.prog 19 #[v, vx] w fun e w' => ∃ n ec : Int, e = .returned (.tuple #[.int .i64 n, .int .i64 ec]) ∧ WgR (CostsR m x) (wghE1 m x) n ec ∧ Below w.heap.size w w' := fun {r} hr hE hc => hc.mono fun e w' ⟨he, hb⟩ => ⟨0, r, he, by unfold WgR; rw [hE, if_neg hr]; exact ⟨rfl, rfl⟩, hb⟩
  by_cases h0 : faultM m = 0
  · by_cases h1 : wrdE x = 0
    · have fX := WFr.of nx
      rw [h1] at fX
      have hE : wghE1 m x = 0 := by unfold wghE1; rw [if_neg (by simp [h0])]; exact h1
      exact (weighedReads_ok v vx m x w h hok h0 nx h1).mono fun e w' ⟨n, ec, he, ha, hb⟩ => ⟨n, ec, he, by unfold WgR; rw [if_pos hE]; exact ha, hb⟩
    · exact bad h1 (by unfold wghE1; rw [if_neg (by simp [h0])]) (weighedReads_bad1 v vx m _ w h hok h0 (WFr.of nx) h1)
  · exact bad h0 (by unfold wghE1; rw [if_pos h0]) (weighedReads_bad0 v vx m _ w h hok rfl h0)
set_option maxRecDepth 100000 in
theorem weighed_bad0 (v vx vy : Value) (m : Mc) (r : Int) (w : World) (h : Mach w v m) (hok : okM m) (hr0 : faultM m = r) (hr : r ≠ 0) :
    Calls Try.prog 17 #[v, vx, vy] w fun e w' => e = .returned (.tuple #[.int .i64 0, .int .i64 r]) ∧ Below w.heap.size w w' := by
  obtain ⟨z, l⟩ := m
  have HM : Hid (Mach w v (z, l)) := h
  have HK : Hid (okM (z, l)) := hok
  have HR := hidP hr0
  have t0 : (r != 0) = true := bne_iff_ne.2 hr
  have t1 : (r == 0) = false := by simpa using hr
  obtain ⟨vs, rfl, hS⟩ := h
  obtain ⟨a, cap, rfl⟩ := hS.sl
  clear hS hok hr0 hr
  go_enter Try.func17, Try.ntmps17
  go_wp2_with (first
    | (go_at_call 32; (with_reducible refine (fault_any _ (z, l) _ (HM.out.later (B := w.heap.size) (by go_grown) (Nat.le_refl _)) HK.out r HR.out).mono ?_); rintro e wa ⟨rfl, hb⟩; obtain ⟨sa, b1, hb1⟩ := boxed hb (by simp); have HBa := hidP hb1; have KSa := hidP b1; have c0 := b1.cell 0 (v := .int .i64 z) rfl; have c1 := b1.cell 1 (v := .slice a l.length cap) rfl; clear b1 hb1 hb))
  go_ret2
  exact ⟨rfl, HBa.out⟩
set_option maxRecDepth 100000 in
theorem weighed_bad1 (v vx vy : Value) (m : Mc) (r : Int) (w : World) (h : Mach w v m) (hok : okM m) (hr0 : faultM m = 0) (hx : WFr w vx r) (hr : r ≠ 0) :
    Calls Try.prog 17 #[v, vx, vy] w fun e w' => e = .returned (.tuple #[.int .i64 0, .int .i64 r]) ∧ Below w.heap.size w w' := by
  obtain ⟨z, l⟩ := m
  have HM : Hid (Mach w v (z, l)) := h
  have HK : Hid (okM (z, l)) := hok
  have HR := hidP hr0
  have Fx := hidP hx
  clear hx
  have t0 : (r != 0) = true := bne_iff_ne.2 hr
  have t1 : (r == 0) = false := by simpa using hr
  obtain ⟨vs, rfl, hS⟩ := h
  obtain ⟨a, cap, rfl⟩ := hS.sl
  clear hS hok hr0 hr
  go_enter Try.func17, Try.ntmps17
  go_wp2_with (first
    | (go_at_call 32; (with_reducible refine (fault_any _ (z, l) _ (HM.out.later (B := w.heap.size) (by go_grown) (Nat.le_refl _)) HK.out 0 HR.out).mono ?_); rintro e wa ⟨rfl, hb⟩; obtain ⟨sa, b1, hb1⟩ := boxed hb (by simp); have HBa := hidP hb1; have KSa := hidP b1; have c0 := b1.cell 0 (v := .int .i64 z) rfl; have c1 := b1.cell 1 (v := .slice a l.length cap) rfl; clear b1 hb1 hb)
    | (go_at_call 26; (with_reducible refine (Fx.out _ HBa.out).mono ?_); rintro e w' ⟨rfl, rfl⟩))
  go_ret2
  exact ⟨rfl, HBa.out⟩
set_option maxRecDepth 100000 in
theorem weighed_bad2 (v vx vy : Value) (m : Mc) (r : Int) (w : World) (h : Mach w v m) (hok : okM m) (hr0 : faultM m = 0) (hx : WFr w vx 0) (hy : WFr w vy r) (hr : r ≠ 0) :
    Calls Try.prog 17 #[v, vx, vy] w fun e w' => e = .returned (.tuple #[.int .i64 0, .int .i64 r]) ∧ Below w.heap.size w w' := by
  obtain ⟨z, l⟩ := m
  have HM : Hid (Mach w v (z, l)) := h
  have HK : Hid (okM (z, l)) := hok
  have HR := hidP hr0
  have Fx := hidP hx
  clear hx
  have Fy := hidP hy
  clear hy
  have t0 : (r != 0) = true := bne_iff_ne.2 hr
  have t1 : (r == 0) = false := by simpa using hr
  obtain ⟨vs, rfl, hS⟩ := h
  obtain ⟨a, cap, rfl⟩ := hS.sl
  clear hS hok hr0 hr
  go_enter Try.func17, Try.ntmps17
  go_wp2_with (first
    | (go_at_call 32; (with_reducible refine (fault_any _ (z, l) _ (HM.out.later (B := w.heap.size) (by go_grown) (Nat.le_refl _)) HK.out 0 HR.out).mono ?_); rintro e wa ⟨rfl, hb⟩; obtain ⟨sa, b1, hb1⟩ := boxed hb (by simp); have HBa := hidP hb1; have KSa := hidP b1; have c0 := b1.cell 0 (v := .int .i64 z) rfl; have c1 := b1.cell 1 (v := .slice a l.length cap) rfl; clear b1 hb1 hb)
    | (go_at_call 26; (with_reducible refine (Fx.out _ HBa.out).mono ?_); rintro e w' ⟨rfl, rfl⟩)
    | (go_at_call 26; (with_reducible refine (Fy.out _ HBa.out).mono ?_); rintro e w' ⟨rfl, rfl⟩))
  go_ret2
  exact ⟨rfl, HBa.out⟩
set_option maxRecDepth 100000 in
theorem weighed_ok (v vx vy : Value) (m : Mc) (x : List Int) (y : List Int) (w : World) (h : Mach w v m) (hok : okM m) (hr0 : faultM m = 0) (nx : Nums w vx x) (ny : Nums w vy y) (ex : wrdE x = 0) (ey : wrdE y = 0) :
    Calls Try.prog 17 #[v, vx, vy] w fun e w' => ∃ n ec : Int, e = .returned (.tuple #[.int .i64 n, .int .i64 ec]) ∧ WghAns (Costs m x y) n ec ∧ Below w.heap.size w w' := by
  have HCH : Hid (∀ W, Below w.heap.size w W → Calls Try.prog 33 #[v, vx, vy, .bool false] W fun e w' => ∃ b : Int, e = .returned (.int .i64 b) ∧ ChpAns (Costs m x y) b ∧ Below W.heap.size W w') := fun W hW => cheapest_two _ vx vy m x y W (h.later hW (Nat.le_refl _)) hr0 (nx.later hW (Nat.le_refl _)) (ny.later hW (Nat.le_refl _)) ex ey
  have Fx : Hid (WFr w vx 0) := by
    have := WFr.of nx
    rw [ex] at this
    exact this
  have Fy : Hid (WFr w vy 0) := by
    have := WFr.of ny
    rw [ey] at this
    exact this
  obtain ⟨z, l⟩ := m
  have HM : Hid (Mach w v (z, l)) := h
  have HK : Hid (okM (z, l)) := hok
  have HR := hidP hr0
  obtain ⟨vs, rfl, hS⟩ := h
  obtain ⟨a, cap, rfl⟩ := hS.sl
  clear hS hok hr0 nx ex ny ey
  have HWG : Hid (∀ b, ChpAns (Costs (z, l) x y) b → WghAns (Costs (z, l) x y) (if b = noneI then 1000000001 else if 1000000000 < b then 0 else b) (if b = noneI then 0 else if 1000000000 < b then 4 else 0)) := fun b hb => hb.wgh
  go_enter Try.func17, Try.ntmps17
  go_wp2_with (first
    | (go_at_call 32; (with_reducible refine (fault_any _ (z, l) _ (HM.out.later (B := w.heap.size) (by go_grown) (Nat.le_refl _)) HK.out 0 HR.out).mono ?_); rintro e wa ⟨rfl, hb⟩; obtain ⟨sa, b1, hb1⟩ := boxed hb (by simp); have HBa := hidP hb1; have KSa := hidP b1; have c0 := b1.cell 0 (v := .int .i64 z) rfl; have c1 := b1.cell 1 (v := .slice a l.length cap) rfl; clear b1 hb1 hb)
    | (go_at_call 26; (with_reducible refine (Fx.out _ HBa.out).mono ?_); rintro e w' ⟨rfl, rfl⟩)
    | (go_at_call 26; (with_reducible refine (Fy.out _ HBa.out).mono ?_); rintro e w' ⟨rfl, rfl⟩)
    | (go_at_call 33; (with_reducible refine (HCH.out _ HBa.out).mono ?_); rintro e wc ⟨b, rfl, hp, hb⟩; have HWB := hidP (HWG.out b hp); have HBc := hidP (HBa.out.trans (hb.mono HBa.out.size)); clear hp hb)
    | (go_at_call 34; (with_reducible refine (told_ans _ _).mono ?_); rintro e w' ⟨rfl, rfl⟩; generalize (if b = noneI then (1000000001 : Int) else if 1000000000 < b then 0 else b) = n9 at *; generalize (if b = noneI then (0 : Int) else if 1000000000 < b then 4 else 0) = e9 at *))
  go_ret2
  exact ⟨_, _, rfl, HWB.out, HBc.out⟩
theorem weighed_any (v vx vy : Value) (m : Mc) (x : List Int) (y : List Int) (w : World) (h : Mach w v m) (hok : okM m) (nx : Nums w vx x) (ny : Nums w vy y) :
    Calls Try.prog 17 #[v, vx, vy] w fun e w' => ∃ n ec : Int, e = .returned (.tuple #[.int .i64 n, .int .i64 ec]) ∧ WgR (Costs m x y) (wghE2 m x y) n ec ∧ Below w.heap.size w w' := by
  have bad : ∀ {r : Int}, r ≠ 0 → (wghE2 m x y) = r → (Calls Try.prog 17 #[v, vx, vy] w fun e w' => e = .returned (.tuple #[.int .i64 0, .int .i64 r]) ∧ Below w.heap.size w w') → Calls Try.prog 17 #[v, vx, vy] w fun e w' => ∃ n ec : Int, e = .returned (.tuple #[.int .i64 n, .int .i64 ec]) ∧ WgR (Costs m x y) (wghE2 m x y) n ec ∧ Below w.heap.size w w' := fun {r} hr hE hc => hc.mono fun e w' ⟨he, hb⟩ => ⟨0, r, he, by unfold WgR; rw [hE, if_neg hr]; exact ⟨rfl, rfl⟩, hb⟩
  by_cases h0 : faultM m = 0
  · by_cases h1 : wrdE x = 0
    · have fX := WFr.of nx
      rw [h1] at fX
      have hE : wghE2 m x y = wrdE y := by unfold wghE2; rw [if_neg (by simp [h0])]; unfold croE; rw [if_neg (by simp [h1])]
      by_cases h2 : wrdE y = 0
      · exact (weighed_ok v vx vy m x y w h hok h0 nx ny h1 h2).mono fun e w' ⟨n, ec, he, ha, hb⟩ => ⟨n, ec, he, by unfold WgR; rw [hE, if_pos h2]; exact ha, hb⟩
      · exact bad h2 hE (weighed_bad2 v vx vy m _ w h hok h0 fX (WFr.of ny) h2)
    · exact bad h1 (by unfold wghE2; rw [if_neg (by simp [h0])]; unfold croE; rw [if_pos h1]) (weighed_bad1 v vx vy m _ w h hok h0 (WFr.of nx) h1)
  · exact bad h0 (by unfold wghE2; rw [if_pos h0]) (weighed_bad0 v vx vy m _ w h hok rfl h0)
end Go.Proofs.Ytpfcljhbamnghaa.Wt
