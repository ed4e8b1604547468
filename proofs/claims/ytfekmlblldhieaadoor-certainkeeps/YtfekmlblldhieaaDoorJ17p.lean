/- weigh.areLabels, checkWords: what is wrong with words. weigh.checkAll, Weigh: what words cost. What a machine costs for two words, as the keeping statements ask. -/
import Derived.Test.YtfekmlblldhieaaDoorJ17j
import Derived.Test.YtfekmlblldhieaaDoorRn
import Derived.Test.YtfekmlblldhieaaDoorJ17i
import Derived.Test.YtfekmlblldhieaaDoorJ17o
import Derived.Test.YtfekmlblldhieaaDoorJ17l
import Derived.Test.YtfekmlblldhieaaDoorJ17n
namespace Go.Proofs.YtfekmlblldhieaaDoor.Wt
open Go.ChangeShapes Go.WideShapes Go.ChangeAt Go.RowKit
open Go.Proofs.YtfekmlblldhieaaDoor.Pl
set_option linter.unusedVariables false
set_option linter.unusedSimpArgs false
set_option maxRecDepth 100000 in
theorem areLabels_any (v : Value) (l : List Int) (w : World) (h : Nums w v l) (hl : ¬ 12 < l.length) :
    Calls Tryd.prog 76 #[v] w fun e w' => e = .returned (.bool (labsB l)) ∧ w = w' := by
  obtain ⟨a, cap, rfl, hc⟩ := h.get
  have HC : Hid (∀ j, j < l.length → ∃ b off, a = some ⟨b, off, none⟩ ∧ b < w.heap.size ∧ w.cell? ⟨b, off + j, none⟩ = some (.int .i64 (el l j))) := hc
  have HR : Hid (∀ i, i < l.length → inB (el l i) 1 1000 = false → labsB l = false) := fun i hi hb => all_false_el hi hb
  have HZ : Hid ((∀ i, i < l.length → inB (el l i) 1 1000 = true) → labsB l = true) := fun ha => by
    show l.all _ = true
    rw [List.all_eq_true]
    intro b hb
    obtain ⟨j, hj, rfl⟩ := mem_el hb
    exact ha j hj
  clear h hc
  generalize labsB l = r at *
  generalize l.length = n at *
  go_enter Tryd.func76, Tryd.ntmps76
  go_wp2
  go_loop [7] (fun i => ∃ k : Nat, k ≤ n ∧ i = .int .i64 k ∧ Hid (∀ j, j < k → inB (el l j) 1 1000 = true)) (fun i => n - (intOf i).toNat)
  case atStart => exact ⟨0, Nat.zero_le _, rfl, fun j hj => absurd hj (by omega)⟩
  case round =>
    obtain ⟨k, hk, rfl, hall⟩ := hrel
    by_cases hlt : k < n
    · have hlt' : (k : Int) < (n : Int) := by omega
      have hk0 : (0 : Int) ≤ (k : Int) := by omega
      obtain ⟨b, off, rfl, hb, g0⟩ := HC.out k hlt
      have HRk := hidP (HR.out k hlt)
      have HS : Hid (inB (el l k) 1 1000 = true → ∀ j, j < k + 1 → inB (el l j) 1 1000 = true) := fun g j hj => by
        by_cases e : j = k
        · rw [e]; exact g
        · exact hall.out j (by omega)
      generalize el l k = p at *
      have ways : p < 1 ∨ (¬ p < 1 ∧ (1000 : Int) < p) ∨ (¬ p < 1 ∧ ¬ (1000 : Int) < p) := by omega
      rcases ways with h1 | ⟨h1, h2⟩ | ⟨h1, h2⟩
      · have hr : r = false := HRk.out (by simp [inB]; omega)
        subst hr
        clear HS HRk HR HZ
        go_wp2
        go_ret
        exact ⟨rfl, rfl⟩
      · have hr : r = false := HRk.out (by simp [inB]; omega)
        subst hr
        clear HS HRk HR HZ
        go_wp2
        go_ret
        exact ⟨rfl, rfl⟩
      · have HS' := hidP (HS.out (by simp [inB]; omega))
        clear HS HRk
        go_wp2
        go_round
        case rel => exact ⟨k + 1, by omega, by go_num, HS'⟩
        case measure => simp [intOf]; omega
    · have hnl : ¬ (k : Int) < (n : Int) := by omega
      have hr : r = true := HZ.out (fun i hi => hall.out i (by omega))
      subst hr
      clear HR HZ
      go_wp2
      go_ret
      exact ⟨rfl, rfl⟩
/-- Words in a block, one behind the other. -/
def WdsAt (w : World) (b : Nat) (vws : List Value) (ws : List (List Int)) : Prop := Blk w b vws.toArray 34 ∧ vws.length = ws.length ∧ ∀ j, j < ws.length → Nums w (el vws j) (el ws j)
theorem WdsAt.later {w w' : World} {b B : Nat} {vws : List Value} {ws : List (List Int)} (h : WdsAt w b vws ws) (hb : Below B w w') (hB : w.heap.size ≤ B) : WdsAt w' b vws ws :=
  ⟨h.1.below hb (Nat.lt_of_lt_of_le h.1.lt hB), h.2.1, fun j hj => (h.2.2 j hj).later hb hB⟩
set_option maxRecDepth 100000 in
set_option maxHeartbeats 1600000 in
theorem checkWords_any (b : Nat) (vws : List Value) (ws : List (List Int)) (n : Nat) (w : World) (h : WdsAt w b vws ws) (hn : ws.length = n) (hn2 : n ≤ 10) :
    Calls Tryd.prog 66 #[.slice (some ⟨b, 0, none⟩) n n] w fun e w' => e = .returned (.int .i64 (wdsE ws)) ∧ w = w' := by
  obtain ⟨hB, hl, hN⟩ := h
  have HB := hidP hB
  have HN : Hid (∀ j, j < n → Nums w (el vws j) (el ws j)) := fun j hj => hN j (by omega)
  have HL := hidP (hl.trans hn)
  have HA : Hid (∀ k, k < n → (∀ j, j < k → wrdE (el ws j) = 0) → wrdE (el ws k) ≠ 0 → wdsE ws = wrdE (el ws k)) := fun k hk => wds_at (by omega)
  have HZ : Hid ((∀ j, j < n → wrdE (el ws j) = 0) → wdsE ws = 0) := fun h => wds_all (fun j hj => h j (by omega))
  clear hB hl hN hn
  generalize wdsE ws = r at *
  have hnot : ∀ (x : Bool) (w : World), (Op.unary .not (.bool x)).run Tryd.prog w = .ok (.bool (!x)) w := fun _ _ => rfl
  go_enter Tryd.func66, Tryd.ntmps66
  go_wp2
  go_loop [7] (fun i => ∃ k : Nat, k ≤ n ∧ i = .int .i64 k ∧ Hid (∀ j, j < k → wrdE (el ws j) = 0)) (fun i => n - (intOf i).toNat)
  case atStart => exact ⟨0, Nat.zero_le _, rfl, fun j hj => absurd hj (by omega)⟩
  case round =>
    obtain ⟨k, hk, rfl, hall⟩ := hrel
    by_cases hlt : k < n
    · have hlt' : (k : Int) < (n : Int) := by omega
      have hk0 : (0 : Int) ≤ (k : Int) := by omega
      have c0 := HB.out.cell k (v := el vws k) (by rw [List.getElem?_toArray, el_get (by rw [HL.out]; exact hlt)]; exact List.getElem?_eq_getElem _)
      have HNk := hidP (HN.out k hlt)
      have HAk := hidP (HA.out k hlt hall.out)
      have HS : Hid (wrdE (el ws k) = 0 → ∀ j, j < k + 1 → wrdE (el ws j) = 0) := fun g j hj => by
        by_cases e : j = k
        · rw [e]; exact g
        · exact hall.out j (by omega)
      generalize el ws k = x at *
      generalize el vws k = vx at *
      obtain ⟨ax, cx, hvx, _⟩ := HNk.out.get
      subst hvx
      by_cases h12 : 12 < x.length
      · have hr : r = 1 := by have h9 := wrd_long h12; rw [h9] at HAk; exact HAk.out (by decide)
        have h12' : (12 : Int) < (x.length : Int) := by omega
        subst hr
        clear HAk HS HNk HA HZ
        generalize x.length = X at *
        go_wp2
        go_ret
        exact ⟨rfl, rfl⟩
      · have h12' : ¬ (12 : Int) < (x.length : Int) := by omega
        have HL2 : Hid (Calls Tryd.prog 76 #[.slice ax x.length cx] w fun e w' => e = .returned (.bool (labsB x)) ∧ w = w') := areLabels_any _ x w HNk.out h12
        have hw := wrd_labs h12
        generalize x.length = X at *
        rcases bool_cases' (labsB x) with hb | hb
        · rw [if_pos hb] at hw
          rw [hb] at HL2
          have HS' := hidP (HS.out hw)
          clear HS HAk HNk hw hb
          go_wp2_with (first | (go_at_call 76; (with_reducible refine HL2.out.mono ?_); rintro e w' ⟨rfl, rfl⟩))
          go_round
          case rel => exact ⟨k + 1, by omega, by go_num, HS'⟩
          case measure => simp [intOf]; omega
        · rw [if_neg (by simp [hb])] at hw
          rw [hb] at HL2
          have hr : r = 2 := by rw [hw] at HAk; exact HAk.out (by decide)
          subst hr
          clear HS HAk HNk hw hb HA HZ
          go_wp2_with (first | (go_at_call 76; (with_reducible refine HL2.out.mono ?_); rintro e w' ⟨rfl, rfl⟩))
          go_ret
          exact ⟨rfl, rfl⟩
    · have hnl : ¬ (k : Int) < (n : Int) := by omega
      have hr : r = 0 := HZ.out (fun i hi => hall.out i (by omega))
      subst hr
      clear HA HZ
      go_wp2
      go_ret
      exact ⟨rfl, rfl⟩
end Go.Proofs.YtfekmlblldhieaaDoor.Wt
namespace Go.Proofs.YtfekmlblldhieaaDoor.Wt
open Go.ChangeShapes Go.WideShapes Go.ChangeAt Go.RowKit
open Go.Proofs.YtfekmlblldhieaaDoor.Pl
set_option linter.unusedVariables false
set_option linter.unusedSimpArgs false
def allE (m : Mc) (ws : List (List Int)) : Int := if faultM m ≠ 0 then faultM m else wdsE ws
set_option maxRecDepth 100000 in
set_option maxHeartbeats 1600000 in
theorem checkAll_any (v : Value) (m : Mc) (b : Nat) (vws : List Value) (ws : List (List Int)) (n : Nat) (w : World) (h : Mach w v m) (hok : okM m) (hw : WdsAt w b vws ws) (hn : ws.length = n) (hn2 : n ≤ 10) (r : Int) (hr : allE m ws = r) :
    Calls Tryd.prog 52 #[v, .slice (some ⟨b, 0, none⟩) n n] w fun e w' => e = .returned (.int .i64 r) ∧ Below w.heap.size w w' := by
  obtain ⟨z, l⟩ := m
  have HM : Hid (Mach w v (z, l)) := h
  obtain ⟨vs, rfl, hS⟩ := h
  obtain ⟨a, cap, rfl⟩ := hS.sl
  have HCK : Hid (∀ W, Below w.heap.size w W → Calls Tryd.prog 25 #[.agg #[.int .i64 z, .slice a l.length cap]] W fun e w' => e = .returned (.int .i64 (faultM (z, l))) ∧ Below W.heap.size W w') := fun W hW => coreCheck_any _ (z, l) W (HM.out.later hW (Nat.le_refl _)) hok _ rfl
  have HCW : Hid (∀ W, Below w.heap.size w W → Calls Tryd.prog 66 #[.slice (some ⟨b, 0, none⟩) n n] W fun e w' => e = .returned (.int .i64 (wdsE ws)) ∧ W = w') := fun W hW => checkWords_any b vws ws n W (hw.later hW (Nat.le_refl _)) hn hn2
  unfold allE at hr
  clear hS hok hw hn HM
  generalize l.length = ln at *
  generalize faultM (z, l) = f at *
  generalize wdsE ws = e at *
  by_cases hf : f = 0
  · rw [if_neg (by simp [hf])] at hr
    subst hr
    subst hf
    go_enter Tryd.func52, Tryd.ntmps52
    go_wp2_with (first
      | (go_at_call 25; (with_reducible refine (HCK.out _ (by go_grown)).mono ?_); rintro e1 w1 ⟨rfl, hb⟩; obtain ⟨s1, b1, hb1⟩ := boxed hb (by simp); have HB1 := hidP hb1; clear hb b1 hb1)
      | (go_at_call 66; (with_reducible refine (HCW.out _ HB1.out).mono ?_); rintro e1 w2 ⟨rfl, rfl⟩))
    go_ret
    exact ⟨rfl, HB1.out⟩
  · rw [if_pos hf] at hr
    subst hr
    go_enter Tryd.func52, Tryd.ntmps52
    go_wp2_with (first
      | (go_at_call 25; (with_reducible refine (HCK.out _ (by go_grown)).mono ?_); rintro e1 w1 ⟨rfl, hb⟩; obtain ⟨s1, b1, hb1⟩ := boxed hb (by simp); have HB1 := hidP hb1; clear hb b1 hb1))
    go_ret
    exact ⟨rfl, HB1.out⟩
theorem words2 {w : World} {vx vy : Value} {x y : List Int} {b : Nat} (hb : Blk w b #[vx, vy] 34) (nx : Nums w vx x) (ny : Nums w vy y) : WdsAt w b [vx, vy] [x, y] := by
  refine ⟨hb, rfl, fun j hj => ?_⟩
  have : j = 0 ∨ j = 1 := by simp at hj; omega
  rcases this with rfl | rfl
  · exact nx
  · exact ny
theorem words1 {w : World} {vx : Value} {x : List Int} {b : Nat} (hb : Blk w b #[vx] 34) (nx : Nums w vx x) : WdsAt w b [vx] [x] := by
  refine ⟨hb, rfl, fun j hj => ?_⟩
  have : j = 0 := by simp at hj; omega
  subst this
  exact nx
theorem cro_short {x y : List Int} (h : croE x y = 0) : x.length ≤ 12 ∧ y.length ≤ 12 := by
  have hx0 : wrdE x = 0 := by
    by_cases g : wrdE x = 0
    · exact g
    · unfold croE at h; rw [if_pos g] at h; exact h
  have hy0 : wrdE y = 0 := by unfold croE at h; rw [if_neg (by simp [hx0])] at h; exact h
  exact ⟨(wrd_parts hx0).1, (wrd_parts hy0).1⟩
set_option maxRecDepth 100000 in
set_option maxHeartbeats 1600000 in
theorem weighP_any (v vx vy : Value) (m : Mc) (x y : List Int) (w : World) (h : Mach w v m) (hok : okM m) (nx : Nums w vx x) (ny : Nums w vy y) :
    Calls Tryd.prog 34 #[v, vx, vy] w fun e w' => ∃ n ec : Int, e = .returned (.tuple #[.int .i64 n, .int .i64 ec]) ∧ WgR (Costs m x y) (wghE2 m x y) n ec ∧ Below w.heap.size w w' := by
  obtain ⟨z, l⟩ := m
  have HM : Hid (Mach w v (z, l)) := h
  obtain ⟨vs, rfl, hS⟩ := h
  obtain ⟨a, cap, rfl⟩ := hS.sl
  obtain ⟨ax, cx, hvx, _⟩ := nx.get
  obtain ⟨ay, cy, hvy, _⟩ := ny.get
  have HCA : Hid (∀ W b, Below w.heap.size w W → Blk W b #[vx, vy] 34 → Calls Tryd.prog 52 #[.agg #[.int .i64 z, .slice a l.length cap], .slice (some ⟨b, 0, none⟩) 2 2] W fun e w' => e = .returned (.int .i64 (wghE2 (z, l) x y)) ∧ Below W.heap.size W w') := fun W b hW hb => checkAll_any _ (z, l) b [vx, vy] [x, y] 2 W (HM.out.later hW (Nat.le_refl _)) hok (words2 hb (nx.later hW (Nat.le_refl _)) (ny.later hW (Nat.le_refl _))) rfl (by omega) _ (by unfold allE wghE2; rw [wds_two])
  have HCO : Hid (wghE2 (z, l) x y = 0 → ∀ W, Below w.heap.size w W → Calls Tryd.prog 53 #[.agg #[.int .i64 z, .slice a l.length cap], vx, vy] W fun e w' => ∃ n ec : Int, e = .returned (.tuple #[.int .i64 n, .int .i64 ec]) ∧ WghAns (Costs (z, l) x y) n ec ∧ Below W.heap.size W w') := fun h0 W hW => by
    unfold wghE2 at h0
    have hf : faultM (z, l) = 0 := by
      by_cases g : faultM (z, l) = 0
      · exact g
      · rw [if_pos g] at h0; exact h0
    rw [if_neg (by simp [hf])] at h0
    obtain ⟨q1, q2⟩ := cro_short h0
    exact costP_any _ vx vy (z, l) x y W (HM.out.later hW (Nat.le_refl _)) hf (nx.later hW (Nat.le_refl _)) (ny.later hW (Nat.le_refl _)) q1 q2
  have k1 := Blk.made (w.alloc (.cells #[.int .i64 z, .slice a l.length cap] 24)) #[vx, vy] 34
  have k2 : Below w.heap.size w ((w.alloc (.cells #[.int .i64 z, .slice a l.length cap] 24)).alloc (.cells #[vx, vy] 34)) := ((Below.refl w.heap.size w).alloc (Nat.le_refl _) _).alloc (by simp) _
  simp only [World.size_alloc] at k1
  have HC0 := hidP (HCA.out _ _ k2 k1)
  clear hS hok nx ny HM k1 k2 HCA
  generalize l.length = ln at *
  unfold WgR
  simp only
  generalize wghE2 (z, l) x y = r at *
  generalize Costs (z, l) x y = P at *
  subst hvx
  subst hvy
  by_cases hr : r = 0
  · subst hr
    have HCO2 := hidP (HCO.out rfl)
    simp only [if_true]
    clear HCO
    go_enter Tryd.func34, Tryd.ntmps34
    go_wp2_with (first
      | (go_at_call 52; (with_reducible refine HC0.out.mono ?_); rintro e1 w1 ⟨rfl, hb⟩; obtain ⟨s1, b1, _, hb1⟩ := boxedTwo hb (by simp); have HB1 := hidP hb1; have c0 := b1.cell 0 (v := .int .i64 z) rfl; have c1 := b1.cell 1 (v := .slice a ln cap) rfl; clear hb b1 hb1)
      | (go_at_call 53; (with_reducible refine (HCO2.out _ HB1.out).mono ?_); rintro e1 w2 ⟨n, ec, rfl, ha, hb2⟩; have HA := hidP ha; have HB2 := hidP (HB1.out.trans (hb2.mono HB1.out.size)); clear ha hb2))
    exact bodyPost_ret (v := .tuple #[.int .i64 n, .int .i64 ec]) (by simp [results, Tryd.results34, go_sem, *]) rfl ⟨n, ec, rfl, HA.out, HB2.out⟩
  · simp only [if_neg hr]
    clear HCO
    go_enter Tryd.func34, Tryd.ntmps34
    go_wp2_with (first
      | (go_at_call 52; (with_reducible refine HC0.out.mono ?_); rintro e1 w1 ⟨rfl, hb⟩; obtain ⟨s1, b1, _, hb1⟩ := boxedTwo hb (by simp); have HB1 := hidP hb1; clear hb b1 hb1))
    exact bodyPost_ret (v := .tuple #[.int .i64 0, .int .i64 r]) (by simp [results, Tryd.results34, go_sem, *]) rfl ⟨0, r, rfl, ⟨rfl, rfl⟩, HB1.out⟩
end Go.Proofs.YtfekmlblldhieaaDoor.Wt
namespace Go.Proofs.YtfekmlblldhieaaDoor.Wt
open Go.ChangeShapes Go.WideShapes Go.ChangeAt Go.RowKit
open Go.Proofs.YtfekmlblldhieaaDoor.Pl
set_option linter.unusedVariables false
set_option linter.unusedSimpArgs false
/-- cost(m, x, y). -/
theorem cost_any (v vx vy : Value) (m : Mc) (x y : List Int) (w : World) (h : Mach w v m) (hok : okM m) (hr : faultM m = 0) (hc : CheapL m.2) (nx : Nums w vx x) (ny : Nums w vy y) (ex : wrdE x = 0) (ey : wrdE y = 0) :
    Calls Tryd.prog 13 #[v, vx, vy] w fun e w' => ∃ n : Int, e = .returned (.int .i64 n) ∧ CstIs (Costs m x y) n ∧ Below w.heap.size w w' := by
  have HW : Hid (∀ W, Below w.heap.size w W → Calls Tryd.prog 34 #[v, vx, vy] W fun e w' => ∃ n : Int, e = .returned (.tuple #[.int .i64 n, .int .i64 0]) ∧ CstIs (Costs m x y) n ∧ Below W.heap.size W w') := fun W hW => (weighP_any v vx vy m x y W (h.later hW (Nat.le_refl _)) hok (nx.later hW (Nat.le_refl _)) (ny.later hW (Nat.le_refl _))).mono fun e w' ⟨n, ec, he, ha, hb⟩ => by
    have hE : wghE2 m x y = 0 := by unfold wghE2; rw [if_neg (by simp [hr])]; unfold croE; rw [if_neg (by simp [ex])]; exact ey
    unfold WgR at ha
    rw [if_pos hE] at ha
    obtain ⟨h1, h2⟩ := cst_of ha (costs_bound hr hc (wrd_parts ex).1 (wrd_parts ey).1)
    subst h1
    exact ⟨n, he, h2, hb⟩
  obtain ⟨z, l⟩ := m
  obtain ⟨vs, rfl, hS⟩ := h
  obtain ⟨a, cap, rfl⟩ := hS.sl
  obtain ⟨ax, cx, rfl, _⟩ := nx.get
  obtain ⟨ay, cy, rfl, _⟩ := ny.get
  clear hS hok hr hc nx ny ex ey
  generalize (fun n => CstIs (Costs (z, l) x y) n) = Q at *
  go_enter Tryd.func13, Tryd.ntmps13
  go_wp2_with (first
    | (go_at_call 34; (with_reducible refine (HW.out _ (by go_grown)).mono ?_); rintro e w1 ⟨n, rfl, hq, hb⟩; have HQ := hidP hq; have HB1 : Hid (Below w.heap.size w w1) := (boxed hb (by simp)).2.2; clear hq hb))
  go_ret
  exact ⟨n, rfl, HQ.out, HB1.out⟩
end Go.Proofs.YtfekmlblldhieaaDoor.Wt
