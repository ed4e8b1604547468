/- The keeping statements' strides: tropicakeep.over, tropicakeep.steps. The keeping statements' strides: tropicakeep.steps. The keeping statements' table over spots: where a spot stands (the function value of tropicakeep.together). -/
import Derived.Test.YthcfkiinjcbajaaJ16h
import Derived.Test.YthcfkiinjcbajaaJ16j
import Derived.Test.YthcfkiinjcbajaaRn
import Derived.Test.YthcfkiinjcbajaaRg
import Derived.BigQuiet
import Derived.Deep.DeepCutAuto
namespace Go.Proofs.Ythcfkiinjcbajaa.Wt
open Go.ChangeShapes Go.WideShapes Go.ChangeAt Go.RowKit
open Go.Proofs.Ythcfkiinjcbajaa.Pl
set_option linter.unusedVariables false
set_option linter.unusedSimpArgs false
set_option maxRecDepth 100000 in
theorem over_any (v : Value) (l : List Int) (i : Nat) (x : Int) (w : World) (h : Nums w v l) (hi : i ≤ 1000) : Calls Try.prog 59 #[v, .int .i64 (i : Int), .int .i64 x] w fun e w' => e = .returned (.int .i64 (ovI l i x)) ∧ w = w' := by
  obtain ⟨a, cap, rfl, hc⟩ := h.get
  have i0 : (0 : Int) ≤ (i : Int) := by omega
  have hwr : IntKind.i64.wrap ((i : Int) + 1) = (i : Int) + 1 := wrapI (by omega) (by omega)
  by_cases h0 : x = 0
  · have hb : (x == 0) = true := by simp [h0]
    have HE : Hid (ovI l i x = (i : Int)) := by show _ = _; unfold ovI; rw [if_pos h0]
    clear h0 hc h
    go_enter Try.func59, Try.ntmps59
    go_wp2
    go_ret
    exact ⟨ret_intK HE.out.symm, rfl⟩
  · have hb : (x == 0) = false := by simpa using h0
    by_cases hil : i < l.length
    · have i1 : (i : Int) < (l.length : Int) := by omega
      have i1d : decide ((i : Int) < (l.length : Int)) = true := decide_eq_true i1
      obtain ⟨b, off, rfl, hbl, c0⟩ := hc i hil
      by_cases he : el l i = x
      · have HE : Hid (ovI l i x = (i : Int) + 1) := by show _ = _; unfold ovI; rw [if_neg h0, if_pos ⟨hil, he⟩]
        have heb : (el l i == x) = true := by simpa using he
        clear h0 hc h he hil
        generalize el l i = y at *
        generalize l.length = n at *
        go_enter Try.func59, Try.ntmps59
        go_wp2
        go_ret
        exact ⟨ret_intK HE.out.symm, rfl⟩
      · have HE : Hid (ovI l i x = -1) := by show _ = _; unfold ovI; rw [if_neg h0, if_neg (fun g => he g.2)]
        have heb : (el l i == x) = false := by simpa using he
        clear h0 hc h he hil
        generalize el l i = y at *
        generalize l.length = n at *
        go_enter Try.func59, Try.ntmps59
        go_wp2
        go_ret
        exact ⟨ret_intK HE.out.symm, rfl⟩
    · have i1 : ¬ (i : Int) < (l.length : Int) := by omega
      have i1d : decide ((i : Int) < (l.length : Int)) = false := decide_eq_false i1
      have HE : Hid (ovI l i x = -1) := by show _ = _; unfold ovI; rw [if_neg h0, if_neg (fun g => hil g.1)]
      clear h0 hc h hil
      generalize l.length = n at *
      go_enter Try.func59, Try.ntmps59
      go_wp2
      go_ret
      exact ⟨ret_intK HE.out.symm, rfl⟩
/-- A stride's five cells. -/
def encD (d : Sd) : List Value := [.int .i64 d.1, .int .i64 d.2.1, .int .i64 d.2.2.1, .int .i64 d.2.2.2.1, .int .i64 d.2.2.2.2]
theorem encD_len (d : Sd) : (encD d).length = 5 := rfl
theorem encD_one (d : Sd) : ∀ u ∈ encD d, u.oneCell' = true := by
  intro u hu
  simp [encD] at hu
  rcases hu with rfl | rfl | rfl | rfl | rfl <;> rfl
theorem infoStd : (Try.prog.info? 86).map (fun i => (i.zero, i.size, i.bytes)) = some (some (.agg #[.int .i64 0, .int .i64 0, .int .i64 0, .int .i64 0, .int .i64 0]), 5, 40) := by kernel_rfl
def OwnD (w : World) (base : Nat) (v : Value) (L : List Sd) : Prop := w.ownsRow base 86 5 v L.length (L.flatMap encD)
theorem OwnD.later {w w' : World} {base : Nat} {v : Value} {L : List Sd} (h : OwnD w base v L) (hb : Below w.heap.size w w') : OwnD w' base v L := ownBelow h hb
theorem OwnD.push {W : World} {base : Nat} {v : Value} {L : List Sd} (h : OwnD W base v L) (d : Sd) (hl : L.length ≤ 1000000) (hbase : base ≤ W.heap.size) :
    ∃ a k w', (Builtin.append_ #[83, 83] 83 #[v, .slice (some ⟨W.heap.size, 0, none⟩) 1 1]).run Try.prog (W.alloc (.cells #[.int .i64 d.1, .int .i64 d.2.1, .int .i64 d.2.2.1, .int .i64 d.2.2.2.1, .int .i64 d.2.2.2.2] 86)) = .ok (.slice a (L.length + 1) k) w' ∧ OwnD w' base (.slice a (L.length + 1) k) (L ++ [d]) ∧ Below base W w' := by
  obtain ⟨i1, hi1, hy0, hy1, hy2⟩ := info_parts infoStd
  have hB : Below W.heap.size W (W.alloc (.cells #[.int .i64 d.1, .int .i64 d.2.1, .int .i64 d.2.2.1, .int .i64 d.2.2.2.1, .int .i64 d.2.2.2.2] 86)) := (Below.refl _ _).alloc (Nat.le_refl _) _
  obtain ⟨v4, w4, r4, h4, g4, _⟩ := run_append_spot (P := Try.prog) encD_len (by decide) encD_one 83 83 base 86 i1 _ 40 Try.underlying83 hi1 hy0 hy1 hy2 rfl _ L.length (L.flatMap encD) (ownBelow h hB) _ [d] (oneRow (enc := encD) W d rfl 86) (by simp; unfold maxLen; omega) (by simp; omega) (by simp; omega)
  obtain ⟨a, k, hv⟩ := own_sl h4
  subst hv
  refine ⟨a, k, w4, r4, by unfold OwnD; rw [List.length_append, List.flatMap_append]; exact h4, (hB.mono hbase).trans ((Below.refl _ _).grown g4 (by simp; omega) (fun k hk => (h.lt k hk).1))⟩
end Go.Proofs.Ythcfkiinjcbajaa.Wt
namespace Go.Proofs.Ythcfkiinjcbajaa.Wt
open Go.ChangeShapes Go.WideShapes Go.ChangeAt Go.RowKit
open Go.Proofs.Ythcfkiinjcbajaa.Pl
set_option linter.unusedVariables false
set_option linter.unusedSimpArgs false
def HeldSx (b : Nat) (s0 s1 s2 s3 : Int) (c o : Nat) (x0 x1 x2 x3 : Int) (w : World) : Prop := (w.cell? ⟨b, 0, none⟩ = some (.int .i64 s0) ∧ w.cell? ⟨b, 1, none⟩ = some (.int .i64 s1) ∧ w.cell? ⟨b, 2, none⟩ = some (.int .i64 s2) ∧ w.cell? ⟨b, 3, none⟩ = some (.int .i64 s3)) ∧ w.cell? ⟨c, o, none⟩ = some (.int .i64 x0) ∧ w.cell? ⟨c, o + 1, none⟩ = some (.int .i64 x1) ∧ w.cell? ⟨c, o + 2, none⟩ = some (.int .i64 x2) ∧ w.cell? ⟨c, o + 3, none⟩ = some (.int .i64 x3)
def HeldSxy (b : Nat) (s0 s1 s2 s3 : Int) (c o : Nat) (x0 x1 x2 x3 : Int) (c' o' : Nat) (y0 y1 y2 y3 : Int) (w : World) : Prop := (w.cell? ⟨b, 0, none⟩ = some (.int .i64 s0) ∧ w.cell? ⟨b, 1, none⟩ = some (.int .i64 s1) ∧ w.cell? ⟨b, 2, none⟩ = some (.int .i64 s2) ∧ w.cell? ⟨b, 3, none⟩ = some (.int .i64 s3)) ∧ (w.cell? ⟨c, o, none⟩ = some (.int .i64 x0) ∧ w.cell? ⟨c, o + 1, none⟩ = some (.int .i64 x1) ∧ w.cell? ⟨c, o + 2, none⟩ = some (.int .i64 x2) ∧ w.cell? ⟨c, o + 3, none⟩ = some (.int .i64 x3)) ∧ w.cell? ⟨c', o', none⟩ = some (.int .i64 y0) ∧ w.cell? ⟨c', o' + 1, none⟩ = some (.int .i64 y1) ∧ w.cell? ⟨c', o' + 2, none⟩ = some (.int .i64 y2) ∧ w.cell? ⟨c', o' + 3, none⟩ = some (.int .i64 y3)
set_option maxRecDepth 100000 in
set_option maxHeartbeats 6400000 in
theorem steps_any (vx vy vv vu : Value) (xs ys : List Ar) (p q i j : Nat) (v u : List Int) (w : World) (hx : Arcs w vx xs) (hy : Arcs w vy ys) (hv : Nums w vv v) (hu : Nums w vu u) (lx : xs.length ≤ 400) (ly : ys.length ≤ 400) (li : i ≤ 1000) (lj : j ≤ 1000) (wx : ∀ a ∈ xs, 0 ≤ a.2.2.1 ∧ a.2.2.1 ≤ 1000000000) (wy : ∀ a ∈ ys, 0 ≤ a.2.2.1 ∧ a.2.2.1 ≤ 1000000000) :
    Calls Try.prog 39 #[vx, vy, .agg #[.int .i64 (p : Int), .int .i64 (q : Int), .int .i64 (i : Int), .int .i64 (j : Int)], vv, vu] w fun e w' => ∃ a c m, e = .returned (.slice a m c) ∧ (sdL xs ys (p, q, i, j) v u).length = m ∧ OwnD w' (w.heap.size + 1) (.slice a m c) (sdL xs ys (p, q, i, j) v u) ∧ Below w.heap.size w w' := by
  obtain ⟨ax, cx, rfl, hcx⟩ := hx.get
  obtain ⟨ay, cy, rfl, hcy⟩ := hy.get
  obtain ⟨W0, hW0⟩ : ∃ W0, W0 = w.alloc (.cells #[.int .i64 (p : Int), .int .i64 (q : Int), .int .i64 (i : Int), .int .i64 (j : Int)] 81) := ⟨_, rfl⟩
  have HB0 := hidP (show Below w.heap.size w W0 by rw [hW0]; exact (Below.refl _ _).alloc (Nat.le_refl _) _)
  have HSB := hidP (show Blk W0 w.heap.size #[.int .i64 (p : Int), .int .i64 (q : Int), .int .i64 (i : Int), .int .i64 (j : Int)] 81 by rw [hW0]; exact Blk.made _ _ _)
  have HW0 := hidP (show W0.heap.size = w.heap.size + 1 by rw [hW0]; simp)
  have HWE := hidP hW0
  clear hW0
  have HCx := hidP hcx
  have HCy := hidP hcy
  have HWx := hidP wx
  have HWy := hidP wy
  have HOV : Hid (∀ x W, Below (w.heap.size + 1) W0 W → Calls Try.prog 59 #[vv, .int .i64 (i : Int), .int .i64 x] W fun e w' => e = .returned (.int .i64 (ovI v i x)) ∧ W = w') := fun x W hW => over_any vv v i x W ((hv.later HB0.out (Nat.le_refl _)).later hW (by rw [HW0.out]; exact Nat.le_refl _)) li
  have HOU : Hid (∀ x W, Below (w.heap.size + 1) W0 W → Calls Try.prog 59 #[vu, .int .i64 (j : Int), .int .i64 x] W fun e w' => e = .returned (.int .i64 (ovI u j x)) ∧ W = w') := fun x W hW => over_any vu u j x W ((hu.later HB0.out (Nat.le_refl _)).later hW (by rw [HW0.out]; exact Nat.le_refl _)) lj
  have HSX : Hid (∀ b o (x0 x1 x2 x3 : Int), b < w.heap.size → w.cell? ⟨b, o, none⟩ = some (.int .i64 x0) → w.cell? ⟨b, o + 1, none⟩ = some (.int .i64 x1) → w.cell? ⟨b, o + 2, none⟩ = some (.int .i64 x2) → w.cell? ⟨b, o + 3, none⟩ = some (.int .i64 x3) → ∀ W, Below (w.heap.size + 1) W0 W → HeldSx w.heap.size (p : Int) (q : Int) (i : Int) (j : Int) b o x0 x1 x2 x3 W) := fun b o x0 x1 x2 x3 hb z0 z1 z2 z3 W hW => by
    have k := HSB.out.below hW (by omega)
    have e : ∀ t, W.cell? ⟨b, t, none⟩ = w.cell? ⟨b, t, none⟩ := fun t => (hW.cell (p := ⟨b, t, none⟩) (by show b < w.heap.size + 1; omega)).trans (HB0.out.cell (p := ⟨b, t, none⟩) hb)
    exact ⟨⟨k.cell 0 rfl, k.cell 1 rfl, k.cell 2 rfl, k.cell 3 rfl⟩, (e _).trans z0, (e _).trans z1, (e _).trans z2, (e _).trans z3⟩
  obtain ⟨av, cv, rfl, _⟩ := hv.get
  obtain ⟨au, cu, rfl, _⟩ := hu.get
  have HX0 : Hid ((xs.take 0).flatMap (sdX v u (p, q, i, j) ys) = []) := by show _ = _; simp
  have HXS : Hid (∀ k, k < xs.length → (xs.take (k + 1)).flatMap (sdX v u (p, q, i, j) ys) = (xs.take k).flatMap (sdX v u (p, q, i, j) ys) ++ sdX v u (p, q, i, j) ys (el xs k)) := fun k hk => flat_take _ hk
  have HXE : Hid ((xs.take xs.length).flatMap (sdX v u (p, q, i, j) ys) = xs.flatMap (sdX v u (p, q, i, j) ys)) := by show _ = _; rw [List.take_length]
  have HXL : Hid (∀ k, k ≤ xs.length → ((xs.take k).flatMap (sdX v u (p, q, i, j) ys)).length ≤ 200000) := fun k hk => by
    have h1 := flat_len1 (sdX_len v u (p, q, i, j) ys) (xs.take k)
    have h2 : (xs.take k).length * (ys.length + 1) ≤ 400 * 401 := Nat.mul_le_mul (by simp; omega) (by omega)
    omega
  have HYS : Hid (∀ x t, t < ys.length → (ys.take (t + 1)).flatMap (sdB v u (p, q, i, j) x) = (ys.take t).flatMap (sdB v u (p, q, i, j) x) ++ sdB v u (p, q, i, j) x (el ys t)) := fun x t ht => flat_take _ ht
  have HYL : Hid (∀ x t, ((ys.take t).flatMap (sdB v u (p, q, i, j) x)).length ≤ 400) := fun x t => by
    have h1 := flat_len1 (sdB_len v u (p, q, i, j) x) (ys.take t)
    have h2 : (ys.take t).length ≤ ys.length := by simp; omega
    omega
  have HZS : Hid (∀ t, t < ys.length → (ys.take (t + 1)).flatMap (sdY u (p, q, i, j)) = (ys.take t).flatMap (sdY u (p, q, i, j)) ++ sdY u (p, q, i, j) (el ys t)) := fun t ht => flat_take _ ht
  have HZL : Hid (∀ t, ((ys.take t).flatMap (sdY u (p, q, i, j))).length ≤ 400) := fun t => by
    have h1 := flat_len1 (sdY_len u (p, q, i, j)) (ys.take t)
    have h2 : (ys.take t).length ≤ ys.length := by simp; omega
    omega
  clear hcx hcy wx wy hx hy hv hu
  go_enter Try.func39, Try.ntmps39
  go_wp2
  rw [← HWE.out]
  clear HWE
  go_loopw [11, 12] (fun s11 sI wr => ∃ (k m : Nat) (vo : Value), s11 = vo ∧ sI = .int .i64 (k : Int) ∧ k ≤ xs.length ∧ Hid (((xs.take k).flatMap (sdX v u (p, q, i, j) ys)).length = m) ∧ Hid (OwnD wr (w.heap.size + 1) vo ((xs.take k).flatMap (sdX v u (p, q, i, j) ys))) ∧ Hid (Below (w.heap.size + 1) W0 wr)) (fun _ sI _ => xs.length - (intOf sI).toNat)
  case atStart => exact ⟨0, 0, _, rfl, rfl, Nat.zero_le _, by rw [HX0.out]; rfl, by rw [HX0.out]; exact World.ownsRow_nil _ _ _ _, Below.refl _ _⟩
  case round =>
    obtain ⟨k, m, vo, rfl, rfl, hk, hm, hO, hb⟩ := hrel
    obtain ⟨w6, hw6⟩ : ∃ w6, w6 = wr := ⟨_, rfl⟩
    subst hw6
    by_cases hlt : k < xs.length
    · have k0 : (0 : Int) ≤ (k : Int) := by omega
      have k1 : (k : Int) < (xs.length : Int) := by omega
      have HLk := hidP (HXS.out k hlt)
      have HLl := HXL.out k hk
      generalize (xs.take k).flatMap (sdX v u (p, q, i, j) ys) = Lk at *
      obtain ⟨avo, cvo, hvo⟩ := own_sl hO.out
      rw [hm.out] at hvo
      subst hvo
      obtain ⟨bx, ox, hsx, hbxl, z0, z1, z2, z3⟩ := HCx.out k hlt
      subst hsx
      obtain ⟨hwx0, hwx1⟩ := HWx.out _ (el_mem hlt)
      obtain ⟨xa, hxa⟩ : ∃ xa, el xs k = xa := ⟨_, rfl⟩
      rw [hxa] at z0 z1 z2 z3 hwx0 hwx1 HLk
      clear hxa
      obtain ⟨x0, x1, x2, x3⟩ := xa
      simp only at z0 z1 z2 z3 hwx0 hwx1
      have HSk := hidP (HSX.out bx (ox + k * 4) x0 x1 x2 x3 hbxl z0 z1 z2 z3)
      have ex1 := (HSk.out w6 hb.out).2.2.1
      go_wp2
      have HS0 := HSk.out w6.drew hb.out.drew
      refine region_anyL (HeldSx w.heap.size (p : Int) (q : Int) (i : Int) (j : Int) bx (ox + k * 4) x0 x1 x2 x3) 1000 (by kernel_rfl) ?_
      refine anyL_take (i := 0) (v := ?v0_1) at0 (by kernel_rfl) (by kernel_rfl) (by kernel_rfl) (by kernel_rfl) (fun _ _ _ h => h) rfl ?y0_1 HS0 ?r0_1
      case y0_1 => intro wx hx; obtain ⟨⟨h0, h1, h2, h3⟩, h4, h5, h6, h7⟩ := hx; go_simp; try (with_reducible rfl)
      simp only [Act.put, List.setIfInBounds_toArray, List.set_cons_zero, List.set_cons_succ]
      refine anyL_take (i := 1) (v := ?v1_2) (atS at0) (by kernel_rfl) (by kernel_rfl) (by kernel_rfl) (by kernel_rfl) (fun _ _ _ h => h) rfl ?y1_2 HS0 ?r1_2
      case y1_2 => intro wx hx; obtain ⟨⟨h0, h1, h2, h3⟩, h4, h5, h6, h7⟩ := hx; go_simp; try (with_reducible rfl)
      simp only [Act.put, List.setIfInBounds_toArray, List.set_cons_zero, List.set_cons_succ]
      refine anyL_take (i := 2) (v := ?v2_3) (atS (atS at0)) (by kernel_rfl) (by kernel_rfl) (by kernel_rfl) (by kernel_rfl) (fun _ _ _ h => h) rfl ?y2_3 HS0 ?r2_3
      case y2_3 => intro wx hx; obtain ⟨⟨h0, h1, h2, h3⟩, h4, h5, h6, h7⟩ := hx; go_simp; try (with_reducible rfl)
      simp only [Act.put, List.setIfInBounds_toArray, List.set_cons_zero, List.set_cons_succ]
      refine anyL_take (i := 3) (v := ?v3_4) (atS (atS (atS at0))) (by kernel_rfl) (by kernel_rfl) (by kernel_rfl) (by kernel_rfl) (fun _ _ _ h => h) rfl ?y3_4 HS0 ?r3_4
      case y3_4 => intro wx hx; obtain ⟨⟨h0, h1, h2, h3⟩, h4, h5, h6, h7⟩ := hx; go_simp; try (with_reducible rfl)
      simp only [Act.put, List.setIfInBounds_toArray, List.set_cons_zero, List.set_cons_succ]
      refine anyL_take (i := 4) (v := ?v4_5) (atS (atS (atS (atS at0)))) (by kernel_rfl) (by kernel_rfl) (by kernel_rfl) (by kernel_rfl) (fun _ _ _ h => h) rfl ?y4_5 HS0 ?r4_5
      case y4_5 => intro wx hx; obtain ⟨⟨h0, h1, h2, h3⟩, h4, h5, h6, h7⟩ := hx; go_simp; try (with_reducible rfl)
      simp only [Act.put, List.setIfInBounds_toArray, List.set_cons_zero, List.set_cons_succ]
      refine anyL_take (i := 5) (v := ?v5_6) (atS (atS (atS (atS (atS at0))))) (by kernel_rfl) (by kernel_rfl) (by kernel_rfl) (by kernel_rfl) (fun _ _ _ h => h) rfl ?y5_6 HS0 ?r5_6
      case y5_6 => intro wx hx; obtain ⟨⟨h0, h1, h2, h3⟩, h4, h5, h6, h7⟩ := hx; go_simp; try (with_reducible rfl)
      simp only [Act.put, List.setIfInBounds_toArray, List.set_cons_zero, List.set_cons_succ]
      refine anyL_take (i := 6) (v := ?v6_7) (atS (atS (atS (atS (atS (atS at0)))))) (by kernel_rfl) (by kernel_rfl) (by kernel_rfl) (by kernel_rfl) (fun _ _ _ h => h) rfl ?y6_7 HS0 ?r6_7
      case y6_7 => intro wx hx; obtain ⟨⟨h0, h1, h2, h3⟩, h4, h5, h6, h7⟩ := hx; go_simp; try (with_reducible rfl)
      simp only [Act.put, List.setIfInBounds_toArray, List.set_cons_zero, List.set_cons_succ]
      refine anyL_take (i := 7) (v := ?v7_8) (atS (atS (atS (atS (atS (atS (atS at0))))))) (by kernel_rfl) (by kernel_rfl) (by kernel_rfl) (by kernel_rfl) (fun _ _ _ h => h) rfl ?y7_8 HS0 ?r7_8
      case y7_8 => intro wx hx; obtain ⟨⟨h0, h1, h2, h3⟩, h4, h5, h6, h7⟩ := hx; go_simp; try (with_reducible rfl)
      simp only [Act.put, List.setIfInBounds_toArray, List.set_cons_zero, List.set_cons_succ]
      refine anyL_one (i := 8) (atS (atS (atS (atS (atS (atS (atS (atS at0)))))))) (by kernel_rfl) rfl (fun K hK => ?_)
      go_simp
      with_reducible refine (HOV.out x0 _ hb.out.drew).mono ?_
      rintro e w9 ⟨rfl, hw9⟩
      subst hw9
      refine hK _ _ (.inr HS0) ?_
      try simp only [Act.put, List.setIfInBounds_toArray, List.set_cons_zero, List.set_cons_succ]
      refine anyL_one (i := 9) (atS (atS (atS (atS (atS (atS (atS (atS (atS at0))))))))) (by kernel_rfl) rfl (fun K hK => ?_)
      go_simp
      refine hK _ _ (.inr HS0) (anyL_done (by kernel_rfl) (NoPanic.normal ?_))
      try simp only [Act.put, List.setIfInBounds_toArray, List.set_cons_zero, List.set_cons_succ]
      clear HS0
      have hbd := ovI_bd v i x0
      have HSD : Hid (sdX v u (p, q, i, j) ys (x0, x1, x2, x3) = if ovI v i x0 < 0 then [] else if x1 = 0 then [(x3, (q : Int), ovI v i x0, (j : Int), x2)] else ys.flatMap (sdB v u (p, q, i, j) (x0, x1, x2, x3))) := rfl
      have HSB2 : Hid (∀ y : Ar, sdB v u (p, q, i, j) (x0, x1, x2, x3) y = if y.1 = x1 ∧ 0 ≤ ovI u j y.2.1 then [(x3, y.2.2.2, ovI v i x0, ovI u j y.2.1, x2 + y.2.2.1)] else []) := fun y => rfl
      generalize ovI v i x0 = iv at *
      have hO7 := hidP (OwnD.later hO.out ((Below.refl w6.heap.size w6).drew))
      have hb7 := hidP hb.out.drew
      have ex1' : w6.drew.cell? ⟨bx, ox + k * 4 + 1, none⟩ = some (.int .i64 x1) := ex1
      generalize hw7 : w6.drew = w7 at *
      clear hw7 hO hb ex1 z0 z1 z2 z3
      by_cases hiv : iv < 0
      · have HN : Hid ((xs.take (k + 1)).flatMap (sdX v u (p, q, i, j) ys) = Lk) := by show _ = _; rw [HLk.out, HSD.out, if_pos hiv, List.append_nil]
        go_wp2
        go_roundw
        case rel => exact ⟨k + 1, m, _, rfl, by go_num, by omega, by rw [HN.out]; exact hm, by rw [HN.out]; exact hO7, hb7⟩
        case measure => simp [intOf]; omega
      · by_cases hx1 : x1 = 0
        · have hxb : (x1 == 0) = true := by simp [hx1]
          have HN : Hid ((xs.take (k + 1)).flatMap (sdX v u (p, q, i, j) ys) = Lk ++ [(x3, (q : Int), iv, (j : Int), x2)]) := by show _ = _; rw [HLk.out, HSD.out, if_neg hiv, if_pos hx1]
          clear hx1
          go_wp2
          obtain ⟨a9, c9, w9, r9, ho9, hb9⟩ := (OwnD.later hO7.out (w' := w7.drew) ((Below.refl w7.heap.size w7).drew)).push (x3, (q : Int), iv, (j : Int), x2) (by have := HLl; omega) (by have := hb7.out.size; have e9 := HW0.out; show w.heap.size + 1 ≤ w7.heap.size; omega)
          rw [hm.out] at r9 ho9
          simp only at r9
          have HR9 := hidP r9
          have HO9 := hidP ho9
          have HB9 := hidP ((hb7.out.drew).trans hb9)
          have HS0 := HSk.out w7.drew hb7.out.drew
          have HS1 := HSk.out (w7.drew.alloc (.cells #[.int .i64 x3, .int .i64 (q : Int), .int .i64 iv, .int .i64 (j : Int), .int .i64 x2] 86)) ((hb7.out.drew).alloc (by have := hb7.out.size; have e9 := HW0.out; show w.heap.size + 1 ≤ w7.heap.size; omega) _)
          have HS2 := HSk.out w9 HB9.out
          clear r9 ho9 hb9
          refine region_anyL (HeldSx w.heap.size (p : Int) (q : Int) (i : Int) (j : Int) bx (ox + k * 4) x0 x1 x2 x3) 1000 (by kernel_rfl) ?_
          refine anyL_take (i := 0) (v := ?v0_9) at0 (by kernel_rfl) (by kernel_rfl) (by kernel_rfl) (by kernel_rfl) (fun _ _ _ h => h) rfl ?y0_9 HS0 ?r0_9
          case y0_9 => intro wx hx; obtain ⟨⟨h0, h1, h2, h3⟩, h4, h5, h6, h7⟩ := hx; go_simp; try (with_reducible rfl)
          simp only [Act.put, List.setIfInBounds_toArray, List.set_cons_zero, List.set_cons_succ]
          refine anyL_take (i := 1) (v := ?v1_10) (atS at0) (by kernel_rfl) (by kernel_rfl) (by kernel_rfl) (by kernel_rfl) (fun _ _ _ h => h) rfl ?y1_10 HS0 ?r1_10
          case y1_10 => intro wx hx; obtain ⟨⟨h0, h1, h2, h3⟩, h4, h5, h6, h7⟩ := hx; go_simp; try (with_reducible rfl)
          simp only [Act.put, List.setIfInBounds_toArray, List.set_cons_zero, List.set_cons_succ]
          refine anyL_take (i := 2) (v := ?v2_11) (atS (atS at0)) (by kernel_rfl) (by kernel_rfl) (by kernel_rfl) (by kernel_rfl) (fun _ _ _ h => h) rfl ?y2_11 HS0 ?r2_11
          case y2_11 => intro wx hx; obtain ⟨⟨h0, h1, h2, h3⟩, h4, h5, h6, h7⟩ := hx; go_simp; try (with_reducible rfl)
          simp only [Act.put, List.setIfInBounds_toArray, List.set_cons_zero, List.set_cons_succ]
          refine anyL_take (i := 3) (v := ?v3_12) (atS (atS (atS at0))) (by kernel_rfl) (by kernel_rfl) (by kernel_rfl) (by kernel_rfl) (fun _ _ _ h => h) rfl ?y3_12 HS0 ?r3_12
          case y3_12 => intro wx hx; obtain ⟨⟨h0, h1, h2, h3⟩, h4, h5, h6, h7⟩ := hx; go_simp; try (with_reducible rfl)
          simp only [Act.put, List.setIfInBounds_toArray, List.set_cons_zero, List.set_cons_succ]
          refine anyL_take (i := 4) (v := ?v4_13) (atS (atS (atS (atS at0)))) (by kernel_rfl) (by kernel_rfl) (by kernel_rfl) (by kernel_rfl) (fun _ _ _ h => h) rfl ?y4_13 HS0 ?r4_13
          case y4_13 => intro wx hx; obtain ⟨⟨h0, h1, h2, h3⟩, h4, h5, h6, h7⟩ := hx; go_simp; try (with_reducible rfl)
          simp only [Act.put, List.setIfInBounds_toArray, List.set_cons_zero, List.set_cons_succ]
          refine anyL_take (i := 5) (v := ?v5_14) (atS (atS (atS (atS (atS at0))))) (by kernel_rfl) (by kernel_rfl) (by kernel_rfl) (by kernel_rfl) (fun _ _ _ h => h) rfl ?y5_14 HS0 ?r5_14
          case y5_14 => intro wx hx; obtain ⟨⟨h0, h1, h2, h3⟩, h4, h5, h6, h7⟩ := hx; go_simp; try (with_reducible rfl)
          simp only [Act.put, List.setIfInBounds_toArray, List.set_cons_zero, List.set_cons_succ]
          refine anyL_take (i := 6) (v := ?v6_15) (atS (atS (atS (atS (atS (atS at0)))))) (by kernel_rfl) (by kernel_rfl) (by kernel_rfl) (by kernel_rfl) (fun _ _ _ h => h) rfl ?y6_15 HS0 ?r6_15
          case y6_15 => intro wx hx; obtain ⟨⟨h0, h1, h2, h3⟩, h4, h5, h6, h7⟩ := hx; go_simp; try (with_reducible rfl)
          simp only [Act.put, List.setIfInBounds_toArray, List.set_cons_zero, List.set_cons_succ]
          refine anyL_take (i := 7) (v := ?v7_16) (atS (atS (atS (atS (atS (atS (atS at0))))))) (by kernel_rfl) (by kernel_rfl) (by kernel_rfl) (by kernel_rfl) (fun _ _ _ h => h) rfl ?y7_16 HS0 ?r7_16
          case y7_16 => intro wx hx; obtain ⟨⟨h0, h1, h2, h3⟩, h4, h5, h6, h7⟩ := hx; go_simp; try (with_reducible rfl)
          simp only [Act.put, List.setIfInBounds_toArray, List.set_cons_zero, List.set_cons_succ]
          refine anyL_take (i := 8) (v := ?v8_17) (atS (atS (atS (atS (atS (atS (atS (atS at0)))))))) (by kernel_rfl) (by kernel_rfl) (by kernel_rfl) (by kernel_rfl) (fun _ _ _ h => h) rfl ?y8_17 HS0 ?r8_17
          case y8_17 => intro wx hx; obtain ⟨⟨h0, h1, h2, h3⟩, h4, h5, h6, h7⟩ := hx; go_simp; try (with_reducible rfl)
          simp only [Act.put, List.setIfInBounds_toArray, List.set_cons_zero, List.set_cons_succ]
          refine anyL_take (i := 9) (v := ?v9_18) (atS (atS (atS (atS (atS (atS (atS (atS (atS at0))))))))) (by kernel_rfl) (by kernel_rfl) (by kernel_rfl) (by kernel_rfl) (fun _ _ _ h => h) rfl ?y9_18 HS0 ?r9_18
          case y9_18 => intro wx hx; obtain ⟨⟨h0, h1, h2, h3⟩, h4, h5, h6, h7⟩ := hx; go_simp; try (with_reducible rfl)
          simp only [Act.put, List.setIfInBounds_toArray, List.set_cons_zero, List.set_cons_succ]
          refine anyL_take (i := 10) (v := ?v10_19) (atS (atS (atS (atS (atS (atS (atS (atS (atS (atS at0)))))))))) (by kernel_rfl) (by kernel_rfl) (by kernel_rfl) (by kernel_rfl) (fun _ _ _ h => h) rfl ?y10_19 HS0 ?r10_19
          case y10_19 => intro wx hx; obtain ⟨⟨h0, h1, h2, h3⟩, h4, h5, h6, h7⟩ := hx; go_simp; try (with_reducible rfl)
          simp only [Act.put, List.setIfInBounds_toArray, List.set_cons_zero, List.set_cons_succ]
          refine anyL_take (i := 11) (v := ?v11_20) (atS (atS (atS (atS (atS (atS (atS (atS (atS (atS (atS at0))))))))))) (by kernel_rfl) (by kernel_rfl) (by kernel_rfl) (by kernel_rfl) (fun _ _ _ h => h) rfl ?y11_20 HS0 ?r11_20
          case y11_20 => intro wx hx; obtain ⟨⟨h0, h1, h2, h3⟩, h4, h5, h6, h7⟩ := hx; go_simp; try (with_reducible rfl)
          simp only [Act.put, List.setIfInBounds_toArray, List.set_cons_zero, List.set_cons_succ]
          refine anyL_take (i := 12) (v := ?v12_21) (atS (atS (atS (atS (atS (atS (atS (atS (atS (atS (atS (atS at0)))))))))))) (by kernel_rfl) (by kernel_rfl) (by kernel_rfl) (by kernel_rfl) (fun _ _ _ h => h) rfl ?y12_21 HS0 ?r12_21
          case y12_21 => intro wx hx; obtain ⟨⟨h0, h1, h2, h3⟩, h4, h5, h6, h7⟩ := hx; go_simp; try (with_reducible rfl)
          simp only [Act.put, List.setIfInBounds_toArray, List.set_cons_zero, List.set_cons_succ]
          refine anyL_take (i := 13) (v := ?v13_22) (atS (atS (atS (atS (atS (atS (atS (atS (atS (atS (atS (atS (atS at0))))))))))))) (by kernel_rfl) (by kernel_rfl) (by kernel_rfl) (by kernel_rfl) (fun _ _ _ h => h) rfl ?y13_22 HS0 ?r13_22
          case y13_22 => intro wx hx; obtain ⟨⟨h0, h1, h2, h3⟩, h4, h5, h6, h7⟩ := hx; go_simp; try (with_reducible rfl)
          simp only [Act.put, List.setIfInBounds_toArray, List.set_cons_zero, List.set_cons_succ]
          refine anyL_take (i := 14) (v := ?v14_23) (atS (atS (atS (atS (atS (atS (atS (atS (atS (atS (atS (atS (atS (atS at0)))))))))))))) (by kernel_rfl) (by kernel_rfl) (by kernel_rfl) (by kernel_rfl) (fun _ _ _ h => h) rfl ?y14_23 HS0 ?r14_23
          case y14_23 => intro wx hx; obtain ⟨⟨h0, h1, h2, h3⟩, h4, h5, h6, h7⟩ := hx; go_simp; try (with_reducible rfl)
          simp only [Act.put, List.setIfInBounds_toArray, List.set_cons_zero, List.set_cons_succ]
          refine anyL_take (i := 15) (v := ?v15_24) (atS (atS (atS (atS (atS (atS (atS (atS (atS (atS (atS (atS (atS (atS (atS at0))))))))))))))) (by kernel_rfl) (by kernel_rfl) (by kernel_rfl) (by kernel_rfl) (fun _ _ _ h => h) rfl ?y15_24 HS0 ?r15_24
          case y15_24 => intro wx hx; obtain ⟨⟨h0, h1, h2, h3⟩, h4, h5, h6, h7⟩ := hx; go_simp; try (with_reducible rfl)
          simp only [Act.put, List.setIfInBounds_toArray, List.set_cons_zero, List.set_cons_succ]
          refine anyL_take (i := 16) (v := ?v16_25) (atS (atS (atS (atS (atS (atS (atS (atS (atS (atS (atS (atS (atS (atS (atS (atS at0)))))))))))))))) (by kernel_rfl) (by kernel_rfl) (by kernel_rfl) (by kernel_rfl) (fun _ _ _ h => h) rfl ?y16_25 HS0 ?r16_25
          case y16_25 => intro wx hx; obtain ⟨⟨h0, h1, h2, h3⟩, h4, h5, h6, h7⟩ := hx; go_simp; try (with_reducible rfl)
          simp only [Act.put, List.setIfInBounds_toArray, List.set_cons_zero, List.set_cons_succ]
          refine anyL_take (i := 17) (v := ?v17_26) (atS (atS (atS (atS (atS (atS (atS (atS (atS (atS (atS (atS (atS (atS (atS (atS (atS at0))))))))))))))))) (by kernel_rfl) (by kernel_rfl) (by kernel_rfl) (by kernel_rfl) (fun _ _ _ h => h) rfl ?y17_26 HS0 ?r17_26
          case y17_26 => intro wx hx; obtain ⟨⟨h0, h1, h2, h3⟩, h4, h5, h6, h7⟩ := hx; go_simp; try (with_reducible rfl)
          simp only [Act.put, List.setIfInBounds_toArray, List.set_cons_zero, List.set_cons_succ]
          refine anyL_one (i := 18) (atS (atS (atS (atS (atS (atS (atS (atS (atS (atS (atS (atS (atS (atS (atS (atS (atS (atS at0)))))))))))))))))) (by kernel_rfl) rfl (fun K hK => ?_)
          go_simp
          refine hK _ _ (.inr HS1) ?_
          try simp only [Act.put, List.setIfInBounds_toArray, List.set_cons_zero, List.set_cons_succ]
          refine anyL_one (i := 19) (atS (atS (atS (atS (atS (atS (atS (atS (atS (atS (atS (atS (atS (atS (atS (atS (atS (atS (atS at0))))))))))))))))))) (by kernel_rfl) rfl (fun K hK => ?_)
          refine wp_append_run (.tmp 41) (.tmp 59) 83 rfl rfl rfl HR9.out ?_
          refine hK _ _ (.inr HS2) ?_
          try simp only [Act.put, List.setIfInBounds_toArray, List.set_cons_zero, List.set_cons_succ]
          refine anyL_take (i := 20) (v := ?v20_27) (atS (atS (atS (atS (atS (atS (atS (atS (atS (atS (atS (atS (atS (atS (atS (atS (atS (atS (atS (atS at0)))))))))))))))))))) (by kernel_rfl) (by kernel_rfl) (by kernel_rfl) (by kernel_rfl) (fun _ _ _ h => h) rfl ?y20_27 HS2 ?r20_27
          case y20_27 => intro wx hx; obtain ⟨⟨h0, h1, h2, h3⟩, h4, h5, h6, h7⟩ := hx; go_simp; try (with_reducible rfl)
          simp only [Act.put, List.setIfInBounds_toArray, List.set_cons_zero, List.set_cons_succ]
          refine anyL_done (by kernel_rfl) (NoPanic.normal ?_)
          try simp only [Act.put, List.setIfInBounds_toArray, List.set_cons_zero, List.set_cons_succ]
          clear HS0 HS1 HS2 HR9
          go_wp2
          go_roundw
          case rel => exact ⟨k + 1, m + 1, _, rfl, by go_num, by omega, (by rw [HN.out]; show _ = _; rw [List.length_append, hm.out]; rfl), by rw [HN.out]; exact HO9, HB9⟩
          case measure => simp [intOf]; omega
        · have hxb : (x1 == 0) = false := by simpa using hx1
          have HT0 : Hid (Lk ++ (ys.take 0).flatMap (sdB v u (p, q, i, j) (x0, x1, x2, x3)) = Lk) := by show _ = _; simp
          have HTE : Hid (Lk ++ (ys.take ys.length).flatMap (sdB v u (p, q, i, j) (x0, x1, x2, x3)) = (xs.take (k + 1)).flatMap (sdX v u (p, q, i, j) ys)) := by show _ = _; rw [HLk.out, HSD.out, if_neg hiv, if_neg hx1, List.take_length]
          have HTS := hidP (fun t ht => HYS.out (x0, x1, x2, x3) t ht)
          have HTL := hidP (fun t => HYL.out (x0, x1, x2, x3) t)
          clear hx1
          go_wp2
          go_loopw [11, 14] (fun s11 sI wr => ∃ (t m2 : Nat) (vo : Value), s11 = vo ∧ sI = .int .i64 (t : Int) ∧ t ≤ ys.length ∧ Hid ((Lk ++ (ys.take t).flatMap (sdB v u (p, q, i, j) (x0, x1, x2, x3))).length = m2) ∧ Hid (OwnD wr (w.heap.size + 1) vo (Lk ++ (ys.take t).flatMap (sdB v u (p, q, i, j) (x0, x1, x2, x3)))) ∧ Hid (Below (w.heap.size + 1) W0 wr)) (fun _ sI _ => ys.length - (intOf sI).toNat)
          case atStart => exact ⟨0, m, _, rfl, rfl, Nat.zero_le _, by rw [HT0.out]; exact hm, by rw [HT0.out]; exact hO7, hb7⟩
          case round =>
            clear hO7 hb7 ex1'
            obtain ⟨t, m2, vo, rfl, rfl, ht, hm2, hO, hb⟩ := hrel
            obtain ⟨w8, hw8⟩ : ∃ w8, w8 = wr := ⟨_, rfl⟩
            subst hw8
            by_cases htl : t < ys.length
            · have t0 : (0 : Int) ≤ (t : Int) := by omega
              have t1 : (t : Int) < (ys.length : Int) := by omega
              have HLt := hidP (HTS.out t htl)
              have HLm : (Lk ++ (ys.take t).flatMap (sdB v u (p, q, i, j) (x0, x1, x2, x3))).length ≤ 200400 := by have := HTL.out t; rw [List.length_append]; omega
              obtain ⟨avo2, cvo2, hvo2⟩ := own_sl hO.out
              rw [hm2.out] at hvo2
              subst hvo2
              obtain ⟨by9, oy, hsy, hbyl, z0, z1, z2, z3⟩ := HCy.out t htl
              subst hsy
              obtain ⟨hwy0, hwy1⟩ := HWy.out _ (el_mem htl)
              obtain ⟨ya, hya⟩ : ∃ ya, el ys t = ya := ⟨_, rfl⟩
              rw [hya] at z0 z1 z2 z3 hwy0 hwy1 HLt
              clear hya
              obtain ⟨y0, y1, y2, y3⟩ := ya
              simp only at z0 z1 z2 z3 hwy0 hwy1
              have HSt := hidP (HSX.out by9 (oy + t * 4) y0 y1 y2 y3 hbyl z0 z1 z2 z3)
              clear z0 z1 z2 z3
              have HSxy : Hid (∀ W, Below (w.heap.size + 1) W0 W → HeldSxy w.heap.size (p : Int) (q : Int) (i : Int) (j : Int) bx (ox + k * 4) x0 x1 x2 x3 by9 (oy + t * 4) y0 y1 y2 y3 W) := fun W hW => ⟨(HSk.out W hW).1, (HSk.out W hW).2, (HSt.out W hW).2⟩
              go_wp2
              have HS0 := HSt.out w8.drew hb.out.drew
              refine region_anyL (HeldSx w.heap.size (p : Int) (q : Int) (i : Int) (j : Int) by9 (oy + t * 4) y0 y1 y2 y3) 1000 (by kernel_rfl) ?_
              refine anyL_take (i := 0) (v := ?v0_28) at0 (by kernel_rfl) (by kernel_rfl) (by kernel_rfl) (by kernel_rfl) (fun _ _ _ h => h) rfl ?y0_28 HS0 ?r0_28
              case y0_28 => intro wx hx; obtain ⟨⟨h0, h1, h2, h3⟩, h4, h5, h6, h7⟩ := hx; go_simp; try (with_reducible rfl)
              simp only [Act.put, List.setIfInBounds_toArray, List.set_cons_zero, List.set_cons_succ]
              refine anyL_take (i := 1) (v := ?v1_29) (atS at0) (by kernel_rfl) (by kernel_rfl) (by kernel_rfl) (by kernel_rfl) (fun _ _ _ h => h) rfl ?y1_29 HS0 ?r1_29
              case y1_29 => intro wx hx; obtain ⟨⟨h0, h1, h2, h3⟩, h4, h5, h6, h7⟩ := hx; go_simp; try (with_reducible rfl)
              simp only [Act.put, List.setIfInBounds_toArray, List.set_cons_zero, List.set_cons_succ]
              refine anyL_take (i := 2) (v := ?v2_30) (atS (atS at0)) (by kernel_rfl) (by kernel_rfl) (by kernel_rfl) (by kernel_rfl) (fun _ _ _ h => h) rfl ?y2_30 HS0 ?r2_30
              case y2_30 => intro wx hx; obtain ⟨⟨h0, h1, h2, h3⟩, h4, h5, h6, h7⟩ := hx; go_simp; try (with_reducible rfl)
              simp only [Act.put, List.setIfInBounds_toArray, List.set_cons_zero, List.set_cons_succ]
              refine anyL_take (i := 3) (v := ?v3_31) (atS (atS (atS at0))) (by kernel_rfl) (by kernel_rfl) (by kernel_rfl) (by kernel_rfl) (fun _ _ _ h => h) rfl ?y3_31 HS0 ?r3_31
              case y3_31 => intro wx hx; obtain ⟨⟨h0, h1, h2, h3⟩, h4, h5, h6, h7⟩ := hx; go_simp; try (with_reducible rfl)
              simp only [Act.put, List.setIfInBounds_toArray, List.set_cons_zero, List.set_cons_succ]
              refine anyL_take (i := 4) (v := ?v4_32) (atS (atS (atS (atS at0)))) (by kernel_rfl) (by kernel_rfl) (by kernel_rfl) (by kernel_rfl) (fun _ _ _ h => h) rfl ?y4_32 HS0 ?r4_32
              case y4_32 => intro wx hx; obtain ⟨⟨h0, h1, h2, h3⟩, h4, h5, h6, h7⟩ := hx; go_simp; try (with_reducible rfl)
              simp only [Act.put, List.setIfInBounds_toArray, List.set_cons_zero, List.set_cons_succ]
              refine anyL_take (i := 5) (v := ?v5_33) (atS (atS (atS (atS (atS at0))))) (by kernel_rfl) (by kernel_rfl) (by kernel_rfl) (by kernel_rfl) (fun _ _ _ h => h) rfl ?y5_33 HS0 ?r5_33
              case y5_33 => intro wx hx; obtain ⟨⟨h0, h1, h2, h3⟩, h4, h5, h6, h7⟩ := hx; go_simp; try (with_reducible rfl)
              simp only [Act.put, List.setIfInBounds_toArray, List.set_cons_zero, List.set_cons_succ]
              refine anyL_take (i := 6) (v := ?v6_34) (atS (atS (atS (atS (atS (atS at0)))))) (by kernel_rfl) (by kernel_rfl) (by kernel_rfl) (by kernel_rfl) (fun _ _ _ h => h) rfl ?y6_34 HS0 ?r6_34
              case y6_34 => intro wx hx; obtain ⟨⟨h0, h1, h2, h3⟩, h4, h5, h6, h7⟩ := hx; go_simp; try (with_reducible rfl)
              simp only [Act.put, List.setIfInBounds_toArray, List.set_cons_zero, List.set_cons_succ]
              refine anyL_take (i := 7) (v := ?v7_35) (atS (atS (atS (atS (atS (atS (atS at0))))))) (by kernel_rfl) (by kernel_rfl) (by kernel_rfl) (by kernel_rfl) (fun _ _ _ h => h) rfl ?y7_35 HS0 ?r7_35
              case y7_35 => intro wx hx; obtain ⟨⟨h0, h1, h2, h3⟩, h4, h5, h6, h7⟩ := hx; go_simp; try (with_reducible rfl)
              simp only [Act.put, List.setIfInBounds_toArray, List.set_cons_zero, List.set_cons_succ]
              refine anyL_one (i := 8) (atS (atS (atS (atS (atS (atS (atS (atS at0)))))))) (by kernel_rfl) rfl (fun K hK => ?_)
              go_simp
              with_reducible refine (HOU.out y1 _ hb.out.drew).mono ?_
              rintro e w9 ⟨rfl, hw9⟩
              subst hw9
              refine hK _ _ (.inr HS0) ?_
              try simp only [Act.put, List.setIfInBounds_toArray, List.set_cons_zero, List.set_cons_succ]
              refine anyL_one (i := 9) (atS (atS (atS (atS (atS (atS (atS (atS (atS at0))))))))) (by kernel_rfl) rfl (fun K hK => ?_)
              go_simp
              refine hK _ _ (.inr HS0) (anyL_done (by kernel_rfl) (NoPanic.normal ?_))
              try simp only [Act.put, List.setIfInBounds_toArray, List.set_cons_zero, List.set_cons_succ]
              clear HS0
              have hbj := ovI_bd u j y1
              rw [HSB2.out] at HLt
              simp only at HLt
              generalize ovI u j y1 = jv at *
              have hO10 := hidP (OwnD.later hO.out ((Below.refl w8.heap.size w8).drew))
              have hb10 := hidP hb.out.drew
              generalize hw10 : w8.drew = w10 at *
              clear hw10 hO hb
              have ey0 := (HSt.out w10 hb10.out).2.1
              have ex1 := (HSk.out w10 hb10.out).2.2.1
              by_cases hy : y0 = x1 ∧ 0 ≤ jv
              · obtain ⟨hy0, hjv⟩ := hy
                have hyb : (y0 == x1) = true := by simpa using hy0
                have hjb : decide (jv ≥ 0) = true := decide_eq_true hjv
                have hjg : jv ≥ 0 := hjv
                have HN : Hid (Lk ++ (ys.take (t + 1)).flatMap (sdB v u (p, q, i, j) (x0, x1, x2, x3)) = (Lk ++ (ys.take t).flatMap (sdB v u (p, q, i, j) (x0, x1, x2, x3))) ++ [(x3, y3, iv, jv, x2 + y2)]) := by show _ = _; rw [HLt.out, if_pos ⟨hy0, hjv⟩, List.append_assoc]
                have hwr : IntKind.i64.wrap (x2 + y2) = x2 + y2 := wrapI (by omega) (by omega)
                clear hy0 hjv
                go_wp2
                go_quiet (fail)
                go_wp2
                have hO11 := hidP (OwnD.later hO10.out (below_drewN (Below.refl w10.heap.size w10) nq))
                have hb11 := hidP (below_drewN hb10.out nq)
                generalize hw11 : w10.drewN nq = w11 at *
                clear hw11 hO10 hb10 ey0 ex1
                obtain ⟨a9, c9, w9, r9, ho9, hb9⟩ := (OwnD.later hO11.out (w' := w11.drew) ((Below.refl w11.heap.size w11).drew)).push (x3, y3, iv, jv, (x2 + y2)) (by have := HLm; omega) (by have := hb11.out.size; have e9 := HW0.out; show w.heap.size + 1 ≤ w11.heap.size; omega)
                rw [hm2.out] at r9 ho9
                simp only at r9
                have HR9 := hidP r9
                have HO9 := hidP ho9
                have HB9 := hidP ((hb11.out.drew).trans hb9)
                have HS0 := HSxy.out w11.drew hb11.out.drew
                have HS1 := HSxy.out (w11.drew.alloc (.cells #[.int .i64 x3, .int .i64 y3, .int .i64 iv, .int .i64 jv, .int .i64 (x2 + y2)] 86)) ((hb11.out.drew).alloc (by have := hb11.out.size; have e9 := HW0.out; show w.heap.size + 1 ≤ w11.heap.size; omega) _)
                have HS2 := HSxy.out w9 HB9.out
                clear r9 ho9 hb9
                refine region_anyL (HeldSxy w.heap.size (p : Int) (q : Int) (i : Int) (j : Int) bx (ox + k * 4) x0 x1 x2 x3 by9 (oy + t * 4) y0 y1 y2 y3) 1000 (by kernel_rfl) ?_
                refine anyL_take (i := 0) (v := ?v0_36) at0 (by kernel_rfl) (by kernel_rfl) (by kernel_rfl) (by kernel_rfl) (fun _ _ _ h => h) rfl ?y0_36 HS0 ?r0_36
                case y0_36 => intro wx hx; obtain ⟨⟨h0, h1, h2, h3⟩, ⟨h4, h5, h6, h7⟩, h8, h9, h10, h11⟩ := hx; go_simp; try (with_reducible rfl)
                simp only [Act.put, List.setIfInBounds_toArray, List.set_cons_zero, List.set_cons_succ]
                refine anyL_take (i := 1) (v := ?v1_37) (atS at0) (by kernel_rfl) (by kernel_rfl) (by kernel_rfl) (by kernel_rfl) (fun _ _ _ h => h) rfl ?y1_37 HS0 ?r1_37
                case y1_37 => intro wx hx; obtain ⟨⟨h0, h1, h2, h3⟩, ⟨h4, h5, h6, h7⟩, h8, h9, h10, h11⟩ := hx; go_simp; try (with_reducible rfl)
                simp only [Act.put, List.setIfInBounds_toArray, List.set_cons_zero, List.set_cons_succ]
                refine anyL_take (i := 2) (v := ?v2_38) (atS (atS at0)) (by kernel_rfl) (by kernel_rfl) (by kernel_rfl) (by kernel_rfl) (fun _ _ _ h => h) rfl ?y2_38 HS0 ?r2_38
                case y2_38 => intro wx hx; obtain ⟨⟨h0, h1, h2, h3⟩, ⟨h4, h5, h6, h7⟩, h8, h9, h10, h11⟩ := hx; go_simp; try (with_reducible rfl)
                simp only [Act.put, List.setIfInBounds_toArray, List.set_cons_zero, List.set_cons_succ]
                refine anyL_take (i := 3) (v := ?v3_39) (atS (atS (atS at0))) (by kernel_rfl) (by kernel_rfl) (by kernel_rfl) (by kernel_rfl) (fun _ _ _ h => h) rfl ?y3_39 HS0 ?r3_39
                case y3_39 => intro wx hx; obtain ⟨⟨h0, h1, h2, h3⟩, ⟨h4, h5, h6, h7⟩, h8, h9, h10, h11⟩ := hx; go_simp; try (with_reducible rfl)
                simp only [Act.put, List.setIfInBounds_toArray, List.set_cons_zero, List.set_cons_succ]
                refine anyL_take (i := 4) (v := ?v4_40) (atS (atS (atS (atS at0)))) (by kernel_rfl) (by kernel_rfl) (by kernel_rfl) (by kernel_rfl) (fun _ _ _ h => h) rfl ?y4_40 HS0 ?r4_40
                case y4_40 => intro wx hx; obtain ⟨⟨h0, h1, h2, h3⟩, ⟨h4, h5, h6, h7⟩, h8, h9, h10, h11⟩ := hx; go_simp; try (with_reducible rfl)
                simp only [Act.put, List.setIfInBounds_toArray, List.set_cons_zero, List.set_cons_succ]
                refine anyL_take (i := 5) (v := ?v5_41) (atS (atS (atS (atS (atS at0))))) (by kernel_rfl) (by kernel_rfl) (by kernel_rfl) (by kernel_rfl) (fun _ _ _ h => h) rfl ?y5_41 HS0 ?r5_41
                case y5_41 => intro wx hx; obtain ⟨⟨h0, h1, h2, h3⟩, ⟨h4, h5, h6, h7⟩, h8, h9, h10, h11⟩ := hx; go_simp; try (with_reducible rfl)
                simp only [Act.put, List.setIfInBounds_toArray, List.set_cons_zero, List.set_cons_succ]
                refine anyL_take (i := 6) (v := ?v6_42) (atS (atS (atS (atS (atS (atS at0)))))) (by kernel_rfl) (by kernel_rfl) (by kernel_rfl) (by kernel_rfl) (fun _ _ _ h => h) rfl ?y6_42 HS0 ?r6_42
                case y6_42 => intro wx hx; obtain ⟨⟨h0, h1, h2, h3⟩, ⟨h4, h5, h6, h7⟩, h8, h9, h10, h11⟩ := hx; go_simp; try (with_reducible rfl)
                simp only [Act.put, List.setIfInBounds_toArray, List.set_cons_zero, List.set_cons_succ]
                refine anyL_take (i := 7) (v := ?v7_43) (atS (atS (atS (atS (atS (atS (atS at0))))))) (by kernel_rfl) (by kernel_rfl) (by kernel_rfl) (by kernel_rfl) (fun _ _ _ h => h) rfl ?y7_43 HS0 ?r7_43
                case y7_43 => intro wx hx; obtain ⟨⟨h0, h1, h2, h3⟩, ⟨h4, h5, h6, h7⟩, h8, h9, h10, h11⟩ := hx; go_simp; try (with_reducible rfl)
                simp only [Act.put, List.setIfInBounds_toArray, List.set_cons_zero, List.set_cons_succ]
                refine anyL_take (i := 8) (v := ?v8_44) (atS (atS (atS (atS (atS (atS (atS (atS at0)))))))) (by kernel_rfl) (by kernel_rfl) (by kernel_rfl) (by kernel_rfl) (fun _ _ _ h => h) rfl ?y8_44 HS0 ?r8_44
                case y8_44 => intro wx hx; obtain ⟨⟨h0, h1, h2, h3⟩, ⟨h4, h5, h6, h7⟩, h8, h9, h10, h11⟩ := hx; go_simp; try (with_reducible rfl)
                simp only [Act.put, List.setIfInBounds_toArray, List.set_cons_zero, List.set_cons_succ]
                refine anyL_take (i := 9) (v := ?v9_45) (atS (atS (atS (atS (atS (atS (atS (atS (atS at0))))))))) (by kernel_rfl) (by kernel_rfl) (by kernel_rfl) (by kernel_rfl) (fun _ _ _ h => h) rfl ?y9_45 HS0 ?r9_45
                case y9_45 => intro wx hx; obtain ⟨⟨h0, h1, h2, h3⟩, ⟨h4, h5, h6, h7⟩, h8, h9, h10, h11⟩ := hx; go_simp; try (with_reducible rfl)
                simp only [Act.put, List.setIfInBounds_toArray, List.set_cons_zero, List.set_cons_succ]
                refine anyL_take (i := 10) (v := ?v10_46) (atS (atS (atS (atS (atS (atS (atS (atS (atS (atS at0)))))))))) (by kernel_rfl) (by kernel_rfl) (by kernel_rfl) (by kernel_rfl) (fun _ _ _ h => h) rfl ?y10_46 HS0 ?r10_46
                case y10_46 => intro wx hx; obtain ⟨⟨h0, h1, h2, h3⟩, ⟨h4, h5, h6, h7⟩, h8, h9, h10, h11⟩ := hx; go_simp; try (with_reducible rfl)
                simp only [Act.put, List.setIfInBounds_toArray, List.set_cons_zero, List.set_cons_succ]
                refine anyL_take (i := 11) (v := ?v11_47) (atS (atS (atS (atS (atS (atS (atS (atS (atS (atS (atS at0))))))))))) (by kernel_rfl) (by kernel_rfl) (by kernel_rfl) (by kernel_rfl) (fun _ _ _ h => h) rfl ?y11_47 HS0 ?r11_47
                case y11_47 => intro wx hx; obtain ⟨⟨h0, h1, h2, h3⟩, ⟨h4, h5, h6, h7⟩, h8, h9, h10, h11⟩ := hx; go_simp; try (with_reducible rfl)
                simp only [Act.put, List.setIfInBounds_toArray, List.set_cons_zero, List.set_cons_succ]
                refine anyL_take (i := 12) (v := ?v12_48) (atS (atS (atS (atS (atS (atS (atS (atS (atS (atS (atS (atS at0)))))))))))) (by kernel_rfl) (by kernel_rfl) (by kernel_rfl) (by kernel_rfl) (fun _ _ _ h => h) rfl ?y12_48 HS0 ?r12_48
                case y12_48 => intro wx hx; obtain ⟨⟨h0, h1, h2, h3⟩, ⟨h4, h5, h6, h7⟩, h8, h9, h10, h11⟩ := hx; go_simp; try (with_reducible rfl)
                simp only [Act.put, List.setIfInBounds_toArray, List.set_cons_zero, List.set_cons_succ]
                refine anyL_take (i := 13) (v := ?v13_49) (atS (atS (atS (atS (atS (atS (atS (atS (atS (atS (atS (atS (atS at0))))))))))))) (by kernel_rfl) (by kernel_rfl) (by kernel_rfl) (by kernel_rfl) (fun _ _ _ h => h) rfl ?y13_49 HS0 ?r13_49
                case y13_49 => intro wx hx; obtain ⟨⟨h0, h1, h2, h3⟩, ⟨h4, h5, h6, h7⟩, h8, h9, h10, h11⟩ := hx; go_simp; try (with_reducible rfl)
                simp only [Act.put, List.setIfInBounds_toArray, List.set_cons_zero, List.set_cons_succ]
                refine anyL_take (i := 14) (v := ?v14_50) (atS (atS (atS (atS (atS (atS (atS (atS (atS (atS (atS (atS (atS (atS at0)))))))))))))) (by kernel_rfl) (by kernel_rfl) (by kernel_rfl) (by kernel_rfl) (fun _ _ _ h => h) rfl ?y14_50 HS0 ?r14_50
                case y14_50 => intro wx hx; obtain ⟨⟨h0, h1, h2, h3⟩, ⟨h4, h5, h6, h7⟩, h8, h9, h10, h11⟩ := hx; go_simp; try (with_reducible rfl)
                simp only [Act.put, List.setIfInBounds_toArray, List.set_cons_zero, List.set_cons_succ]
                refine anyL_take (i := 15) (v := ?v15_51) (atS (atS (atS (atS (atS (atS (atS (atS (atS (atS (atS (atS (atS (atS (atS at0))))))))))))))) (by kernel_rfl) (by kernel_rfl) (by kernel_rfl) (by kernel_rfl) (fun _ _ _ h => h) rfl ?y15_51 HS0 ?r15_51
                case y15_51 => intro wx hx; obtain ⟨⟨h0, h1, h2, h3⟩, ⟨h4, h5, h6, h7⟩, h8, h9, h10, h11⟩ := hx; go_simp; try (with_reducible rfl)
                simp only [Act.put, List.setIfInBounds_toArray, List.set_cons_zero, List.set_cons_succ]
                refine anyL_take (i := 16) (v := ?v16_52) (atS (atS (atS (atS (atS (atS (atS (atS (atS (atS (atS (atS (atS (atS (atS (atS at0)))))))))))))))) (by kernel_rfl) (by kernel_rfl) (by kernel_rfl) (by kernel_rfl) (fun _ _ _ h => h) rfl ?y16_52 HS0 ?r16_52
                case y16_52 => intro wx hx; obtain ⟨⟨h0, h1, h2, h3⟩, ⟨h4, h5, h6, h7⟩, h8, h9, h10, h11⟩ := hx; go_simp; try (with_reducible rfl)
                simp only [Act.put, List.setIfInBounds_toArray, List.set_cons_zero, List.set_cons_succ]
                refine anyL_take (i := 17) (v := ?v17_53) (atS (atS (atS (atS (atS (atS (atS (atS (atS (atS (atS (atS (atS (atS (atS (atS (atS at0))))))))))))))))) (by kernel_rfl) (by kernel_rfl) (by kernel_rfl) (by kernel_rfl) (fun _ _ _ h => h) rfl ?y17_53 HS0 ?r17_53
                case y17_53 => intro wx hx; obtain ⟨⟨h0, h1, h2, h3⟩, ⟨h4, h5, h6, h7⟩, h8, h9, h10, h11⟩ := hx; go_simp; try (with_reducible rfl)
                simp only [Act.put, List.setIfInBounds_toArray, List.set_cons_zero, List.set_cons_succ]
                refine anyL_take (i := 18) (v := ?v18_54) (atS (atS (atS (atS (atS (atS (atS (atS (atS (atS (atS (atS (atS (atS (atS (atS (atS (atS at0)))))))))))))))))) (by kernel_rfl) (by kernel_rfl) (by kernel_rfl) (by kernel_rfl) (fun _ _ _ h => h) rfl ?y18_54 HS0 ?r18_54
                case y18_54 => intro wx hx; obtain ⟨⟨h0, h1, h2, h3⟩, ⟨h4, h5, h6, h7⟩, h8, h9, h10, h11⟩ := hx; go_simp; try (with_reducible rfl)
                simp only [Act.put, List.setIfInBounds_toArray, List.set_cons_zero, List.set_cons_succ]
                refine anyL_take (i := 19) (v := ?v19_55) (atS (atS (atS (atS (atS (atS (atS (atS (atS (atS (atS (atS (atS (atS (atS (atS (atS (atS (atS at0))))))))))))))))))) (by kernel_rfl) (by kernel_rfl) (by kernel_rfl) (by kernel_rfl) (fun _ _ _ h => h) rfl ?y19_55 HS0 ?r19_55
                case y19_55 => intro wx hx; obtain ⟨⟨h0, h1, h2, h3⟩, ⟨h4, h5, h6, h7⟩, h8, h9, h10, h11⟩ := hx; go_simp; try (with_reducible rfl)
                simp only [Act.put, List.setIfInBounds_toArray, List.set_cons_zero, List.set_cons_succ]
                refine anyL_take (i := 20) (v := ?v20_56) (atS (atS (atS (atS (atS (atS (atS (atS (atS (atS (atS (atS (atS (atS (atS (atS (atS (atS (atS (atS at0)))))))))))))))))))) (by kernel_rfl) (by kernel_rfl) (by kernel_rfl) (by kernel_rfl) (fun _ _ _ h => h) rfl ?y20_56 HS0 ?r20_56
                case y20_56 => intro wx hx; obtain ⟨⟨h0, h1, h2, h3⟩, ⟨h4, h5, h6, h7⟩, h8, h9, h10, h11⟩ := hx; go_simp; try (with_reducible rfl)
                simp only [Act.put, List.setIfInBounds_toArray, List.set_cons_zero, List.set_cons_succ]
                refine anyL_take (i := 21) (v := ?v21_57) (atS (atS (atS (atS (atS (atS (atS (atS (atS (atS (atS (atS (atS (atS (atS (atS (atS (atS (atS (atS (atS at0))))))))))))))))))))) (by kernel_rfl) (by kernel_rfl) (by kernel_rfl) (by kernel_rfl) (fun _ _ _ h => h) rfl ?y21_57 HS0 ?r21_57
                case y21_57 => intro wx hx; obtain ⟨⟨h0, h1, h2, h3⟩, ⟨h4, h5, h6, h7⟩, h8, h9, h10, h11⟩ := hx; go_simp; try (with_reducible rfl)
                simp only [Act.put, List.setIfInBounds_toArray, List.set_cons_zero, List.set_cons_succ]
                refine anyL_take (i := 22) (v := ?v22_58) (atS (atS (atS (atS (atS (atS (atS (atS (atS (atS (atS (atS (atS (atS (atS (atS (atS (atS (atS (atS (atS (atS at0)))))))))))))))))))))) (by kernel_rfl) (by kernel_rfl) (by kernel_rfl) (by kernel_rfl) (fun _ _ _ h => h) rfl ?y22_58 HS0 ?r22_58
                case y22_58 => intro wx hx; obtain ⟨⟨h0, h1, h2, h3⟩, ⟨h4, h5, h6, h7⟩, h8, h9, h10, h11⟩ := hx; go_simp; try (with_reducible rfl)
                simp only [Act.put, List.setIfInBounds_toArray, List.set_cons_zero, List.set_cons_succ]
                refine anyL_take (i := 23) (v := ?v23_59) (atS (atS (atS (atS (atS (atS (atS (atS (atS (atS (atS (atS (atS (atS (atS (atS (atS (atS (atS (atS (atS (atS (atS at0))))))))))))))))))))))) (by kernel_rfl) (by kernel_rfl) (by kernel_rfl) (by kernel_rfl) (fun _ _ _ h => h) rfl ?y23_59 HS0 ?r23_59
                case y23_59 => intro wx hx; obtain ⟨⟨h0, h1, h2, h3⟩, ⟨h4, h5, h6, h7⟩, h8, h9, h10, h11⟩ := hx; go_simp; try (with_reducible rfl)
                simp only [Act.put, List.setIfInBounds_toArray, List.set_cons_zero, List.set_cons_succ]
                refine anyL_take (i := 24) (v := ?v24_60) (atS (atS (atS (atS (atS (atS (atS (atS (atS (atS (atS (atS (atS (atS (atS (atS (atS (atS (atS (atS (atS (atS (atS (atS at0)))))))))))))))))))))))) (by kernel_rfl) (by kernel_rfl) (by kernel_rfl) (by kernel_rfl) (fun _ _ _ h => h) rfl ?y24_60 HS0 ?r24_60
                case y24_60 => intro wx hx; obtain ⟨⟨h0, h1, h2, h3⟩, ⟨h4, h5, h6, h7⟩, h8, h9, h10, h11⟩ := hx; go_simp; try (with_reducible rfl)
                simp only [Act.put, List.setIfInBounds_toArray, List.set_cons_zero, List.set_cons_succ]
                refine anyL_take (i := 25) (v := ?v25_61) (atS (atS (atS (atS (atS (atS (atS (atS (atS (atS (atS (atS (atS (atS (atS (atS (atS (atS (atS (atS (atS (atS (atS (atS (atS at0))))))))))))))))))))))))) (by kernel_rfl) (by kernel_rfl) (by kernel_rfl) (by kernel_rfl) (fun _ _ _ h => h) rfl ?y25_61 HS0 ?r25_61
                case y25_61 => intro wx hx; obtain ⟨⟨h0, h1, h2, h3⟩, ⟨h4, h5, h6, h7⟩, h8, h9, h10, h11⟩ := hx; go_simp; try (with_reducible rfl)
                simp only [Act.put, List.setIfInBounds_toArray, List.set_cons_zero, List.set_cons_succ]
                refine anyL_one (i := 26) (atS (atS (atS (atS (atS (atS (atS (atS (atS (atS (atS (atS (atS (atS (atS (atS (atS (atS (atS (atS (atS (atS (atS (atS (atS (atS at0)))))))))))))))))))))))))) (by kernel_rfl) rfl (fun K hK => ?_)
                go_simp
                refine hK _ _ (.inr HS1) ?_
                try simp only [Act.put, List.setIfInBounds_toArray, List.set_cons_zero, List.set_cons_succ]
                refine anyL_one (i := 27) (atS (atS (atS (atS (atS (atS (atS (atS (atS (atS (atS (atS (atS (atS (atS (atS (atS (atS (atS (atS (atS (atS (atS (atS (atS (atS (atS at0))))))))))))))))))))))))))) (by kernel_rfl) rfl (fun K hK => ?_)
                refine wp_append_run (.tmp 91) (.tmp 117) 83 rfl rfl rfl HR9.out ?_
                refine hK _ _ (.inr HS2) ?_
                try simp only [Act.put, List.setIfInBounds_toArray, List.set_cons_zero, List.set_cons_succ]
                refine anyL_take (i := 28) (v := ?v28_62) (atS (atS (atS (atS (atS (atS (atS (atS (atS (atS (atS (atS (atS (atS (atS (atS (atS (atS (atS (atS (atS (atS (atS (atS (atS (atS (atS (atS at0)))))))))))))))))))))))))))) (by kernel_rfl) (by kernel_rfl) (by kernel_rfl) (by kernel_rfl) (fun _ _ _ h => h) rfl ?y28_62 HS2 ?r28_62
                case y28_62 => intro wx hx; obtain ⟨⟨h0, h1, h2, h3⟩, ⟨h4, h5, h6, h7⟩, h8, h9, h10, h11⟩ := hx; go_simp; try (with_reducible rfl)
                simp only [Act.put, List.setIfInBounds_toArray, List.set_cons_zero, List.set_cons_succ]
                refine anyL_done (by kernel_rfl) (NoPanic.normal ?_)
                try simp only [Act.put, List.setIfInBounds_toArray, List.set_cons_zero, List.set_cons_succ]
                clear HS0 HS1 HS2 HR9
                go_wp2
                go_roundw
                case rel => exact ⟨t + 1, m2 + 1, _, rfl, by go_num, by omega, (by rw [HN.out]; show _ = _; rw [List.length_append, hm2.out]; rfl), by rw [HN.out]; exact HO9, HB9⟩
                case measure => simp [intOf]; omega
              · have HN : Hid (Lk ++ (ys.take (t + 1)).flatMap (sdB v u (p, q, i, j) (x0, x1, x2, x3)) = Lk ++ (ys.take t).flatMap (sdB v u (p, q, i, j) (x0, x1, x2, x3))) := by show _ = _; rw [HLt.out, if_neg hy, List.append_nil]
                have hc : (y0 == x1) = false ∨ ((y0 == x1) = true ∧ ¬ jv ≥ 0) := by
                  by_cases g : y0 = x1
                  · right; exact ⟨by simpa using g, fun h => hy ⟨g, h⟩⟩
                  · left; simpa using g
                clear hy
                rcases hc with hyb | ⟨hyb, hjg⟩
                · go_wp2
                  go_quiet (fail)
                  go_wp2
                  go_roundw
                  case rel => exact ⟨t + 1, m2, _, rfl, by go_num, by omega, by rw [HN.out]; exact hm2, by rw [HN.out]; exact OwnD.later hO10.out (below_drewN (Below.refl w10.heap.size w10) nq), below_drewN hb10.out nq⟩
                  case measure => simp [intOf]; omega
                · have hjb : decide (jv ≥ 0) = false := decide_eq_false hjg
                  go_wp2
                  go_quiet (fail)
                  go_wp2
                  go_roundw
                  case rel => exact ⟨t + 1, m2, _, rfl, by go_num, by omega, by rw [HN.out]; exact hm2, by rw [HN.out]; exact OwnD.later hO10.out (below_drewN (Below.refl w10.heap.size w10) nq), below_drewN hb10.out nq⟩
                  case measure => simp [intOf]; omega
            · have t1 : ¬ (t : Int) < (ys.length : Int) := by omega
              obtain rfl : t = ys.length := by omega
              rw [HTE.out] at hm2 hO
              go_wp2
              go_roundw
              case rel => exact ⟨k + 1, m2, _, rfl, by go_num, by omega, hm2, hO, hb⟩
              case measure => simp [intOf]; omega
    · have k1 : ¬ (k : Int) < (xs.length : Int) := by omega
      obtain rfl : k = xs.length := by omega
      have HLl := HXL.out xs.length (Nat.le_refl _)
      rw [HXE.out] at hm hO HLl
      have HRL : Hid (sdL xs ys (p, q, i, j) v u = xs.flatMap (sdX v u (p, q, i, j) ys) ++ ys.flatMap (sdY u (p, q, i, j))) := rfl
      generalize xs.flatMap (sdX v u (p, q, i, j) ys) = Lk at *
      have HT0 : Hid (Lk ++ (ys.take 0).flatMap (sdY u (p, q, i, j)) = Lk) := by show _ = _; simp
      have HTE : Hid (Lk ++ (ys.take ys.length).flatMap (sdY u (p, q, i, j)) = sdL xs ys (p, q, i, j) v u) := by show _ = _; rw [HRL.out, List.take_length]
      have HTS := hidP (fun t ht => HZS.out t ht)
      have HTL := hidP (fun t => HZL.out t)
      go_wp2
      go_loopw [11, 16] (fun s11 sI wr => ∃ (t m2 : Nat) (vo : Value), s11 = vo ∧ sI = .int .i64 (t : Int) ∧ t ≤ ys.length ∧ Hid ((Lk ++ (ys.take t).flatMap (sdY u (p, q, i, j))).length = m2) ∧ Hid (OwnD wr (w.heap.size + 1) vo (Lk ++ (ys.take t).flatMap (sdY u (p, q, i, j)))) ∧ Hid (Below (w.heap.size + 1) W0 wr)) (fun _ sI _ => ys.length - (intOf sI).toNat)
      case atStart => exact ⟨0, m, _, rfl, rfl, Nat.zero_le _, by rw [HT0.out]; exact hm, by rw [HT0.out]; exact hO, hb⟩
      case round =>
        clear hO hb hm
        obtain ⟨t, m2, vo, rfl, rfl, ht, hm2, hO, hb⟩ := hrel
        obtain ⟨w8, hw8⟩ : ∃ w8, w8 = wr := ⟨_, rfl⟩
        subst hw8
        obtain ⟨avo2, cvo2, hvo2⟩ := own_sl hO.out
        rw [hm2.out] at hvo2
        subst hvo2
        by_cases htl : t < ys.length
        · have t0 : (0 : Int) ≤ (t : Int) := by omega
          have t1 : (t : Int) < (ys.length : Int) := by omega
          have HLt := hidP (HTS.out t htl)
          have HLm : (Lk ++ (ys.take t).flatMap (sdY u (p, q, i, j))).length ≤ 200400 := by have := HTL.out t; rw [List.length_append]; omega
          obtain ⟨by9, oy, hsy, hbyl, z0, z1, z2, z3⟩ := HCy.out t htl
          subst hsy
          obtain ⟨hwy0, hwy1⟩ := HWy.out _ (el_mem htl)
          obtain ⟨ya, hya⟩ : ∃ ya, el ys t = ya := ⟨_, rfl⟩
          rw [hya] at z0 z1 z2 z3 hwy0 hwy1 HLt
          clear hya
          obtain ⟨y0, y1, y2, y3⟩ := ya
          simp only at z0 z1 z2 z3 hwy0 hwy1
          have HSt := hidP (HSX.out by9 (oy + t * 4) y0 y1 y2 y3 hbyl z0 z1 z2 z3)
          clear z0 z1 z2 z3
          go_wp2
          have HS0 := HSt.out w8.drew hb.out.drew
          refine region_anyL (HeldSx w.heap.size (p : Int) (q : Int) (i : Int) (j : Int) by9 (oy + t * 4) y0 y1 y2 y3) 1000 (by kernel_rfl) ?_
          refine anyL_take (i := 0) (v := ?v0_63) at0 (by kernel_rfl) (by kernel_rfl) (by kernel_rfl) (by kernel_rfl) (fun _ _ _ h => h) rfl ?y0_63 HS0 ?r0_63
          case y0_63 => intro wx hx; obtain ⟨⟨h0, h1, h2, h3⟩, h4, h5, h6, h7⟩ := hx; go_simp; try (with_reducible rfl)
          simp only [Act.put, List.setIfInBounds_toArray, List.set_cons_zero, List.set_cons_succ]
          refine anyL_take (i := 1) (v := ?v1_64) (atS at0) (by kernel_rfl) (by kernel_rfl) (by kernel_rfl) (by kernel_rfl) (fun _ _ _ h => h) rfl ?y1_64 HS0 ?r1_64
          case y1_64 => intro wx hx; obtain ⟨⟨h0, h1, h2, h3⟩, h4, h5, h6, h7⟩ := hx; go_simp; try (with_reducible rfl)
          simp only [Act.put, List.setIfInBounds_toArray, List.set_cons_zero, List.set_cons_succ]
          refine anyL_take (i := 2) (v := ?v2_65) (atS (atS at0)) (by kernel_rfl) (by kernel_rfl) (by kernel_rfl) (by kernel_rfl) (fun _ _ _ h => h) rfl ?y2_65 HS0 ?r2_65
          case y2_65 => intro wx hx; obtain ⟨⟨h0, h1, h2, h3⟩, h4, h5, h6, h7⟩ := hx; go_simp; try (with_reducible rfl)
          simp only [Act.put, List.setIfInBounds_toArray, List.set_cons_zero, List.set_cons_succ]
          refine anyL_take (i := 3) (v := ?v3_66) (atS (atS (atS at0))) (by kernel_rfl) (by kernel_rfl) (by kernel_rfl) (by kernel_rfl) (fun _ _ _ h => h) rfl ?y3_66 HS0 ?r3_66
          case y3_66 => intro wx hx; obtain ⟨⟨h0, h1, h2, h3⟩, h4, h5, h6, h7⟩ := hx; go_simp; try (with_reducible rfl)
          simp only [Act.put, List.setIfInBounds_toArray, List.set_cons_zero, List.set_cons_succ]
          refine anyL_take (i := 4) (v := ?v4_67) (atS (atS (atS (atS at0)))) (by kernel_rfl) (by kernel_rfl) (by kernel_rfl) (by kernel_rfl) (fun _ _ _ h => h) rfl ?y4_67 HS0 ?r4_67
          case y4_67 => intro wx hx; obtain ⟨⟨h0, h1, h2, h3⟩, h4, h5, h6, h7⟩ := hx; go_simp; try (with_reducible rfl)
          simp only [Act.put, List.setIfInBounds_toArray, List.set_cons_zero, List.set_cons_succ]
          refine anyL_take (i := 5) (v := ?v5_68) (atS (atS (atS (atS (atS at0))))) (by kernel_rfl) (by kernel_rfl) (by kernel_rfl) (by kernel_rfl) (fun _ _ _ h => h) rfl ?y5_68 HS0 ?r5_68
          case y5_68 => intro wx hx; obtain ⟨⟨h0, h1, h2, h3⟩, h4, h5, h6, h7⟩ := hx; go_simp; try (with_reducible rfl)
          simp only [Act.put, List.setIfInBounds_toArray, List.set_cons_zero, List.set_cons_succ]
          refine anyL_take (i := 6) (v := ?v6_69) (atS (atS (atS (atS (atS (atS at0)))))) (by kernel_rfl) (by kernel_rfl) (by kernel_rfl) (by kernel_rfl) (fun _ _ _ h => h) rfl ?y6_69 HS0 ?r6_69
          case y6_69 => intro wx hx; obtain ⟨⟨h0, h1, h2, h3⟩, h4, h5, h6, h7⟩ := hx; go_simp; try (with_reducible rfl)
          simp only [Act.put, List.setIfInBounds_toArray, List.set_cons_zero, List.set_cons_succ]
          refine anyL_take (i := 7) (v := ?v7_70) (atS (atS (atS (atS (atS (atS (atS at0))))))) (by kernel_rfl) (by kernel_rfl) (by kernel_rfl) (by kernel_rfl) (fun _ _ _ h => h) rfl ?y7_70 HS0 ?r7_70
          case y7_70 => intro wx hx; obtain ⟨⟨h0, h1, h2, h3⟩, h4, h5, h6, h7⟩ := hx; go_simp; try (with_reducible rfl)
          simp only [Act.put, List.setIfInBounds_toArray, List.set_cons_zero, List.set_cons_succ]
          refine anyL_one (i := 8) (atS (atS (atS (atS (atS (atS (atS (atS at0)))))))) (by kernel_rfl) rfl (fun K hK => ?_)
          go_simp
          with_reducible refine (HOU.out y1 _ hb.out.drew).mono ?_
          rintro e w9 ⟨rfl, hw9⟩
          subst hw9
          refine hK _ _ (.inr HS0) ?_
          try simp only [Act.put, List.setIfInBounds_toArray, List.set_cons_zero, List.set_cons_succ]
          refine anyL_one (i := 9) (atS (atS (atS (atS (atS (atS (atS (atS (atS at0))))))))) (by kernel_rfl) rfl (fun K hK => ?_)
          go_simp
          refine hK _ _ (.inr HS0) (anyL_done (by kernel_rfl) (NoPanic.normal ?_))
          try simp only [Act.put, List.setIfInBounds_toArray, List.set_cons_zero, List.set_cons_succ]
          clear HS0
          have hbj := ovI_bd u j y1
          have HSY2 : Hid (sdY u (p, q, i, j) (y0, y1, y2, y3) = if y0 = 0 ∧ 0 ≤ ovI u j y1 then [((p : Int), y3, (i : Int), ovI u j y1, y2)] else []) := rfl
          rw [HSY2.out] at HLt
          clear HSY2
          generalize ovI u j y1 = jv at *
          have hO10 := hidP (OwnD.later hO.out ((Below.refl w8.heap.size w8).drew))
          have hb10 := hidP hb.out.drew
          generalize hw10 : w8.drew = w10 at *
          clear hw10 hO hb
          have ey0 := (HSt.out w10 hb10.out).2.1
          by_cases hy : y0 = 0 ∧ 0 ≤ jv
          · obtain ⟨hy0, hjv⟩ := hy
            have hyb : (y0 == 0) = true := by simpa using hy0
            have hjb : decide (jv ≥ 0) = true := decide_eq_true hjv
            have hjg : jv ≥ 0 := hjv
            have HN : Hid (Lk ++ (ys.take (t + 1)).flatMap (sdY u (p, q, i, j)) = (Lk ++ (ys.take t).flatMap (sdY u (p, q, i, j))) ++ [((p : Int), y3, (i : Int), jv, y2)]) := by show _ = _; rw [HLt.out, if_pos ⟨hy0, hjv⟩, List.append_assoc]
            clear hy0 hjv
            go_wp2
            obtain ⟨a9, c9, w9, r9, ho9, hb9⟩ := (OwnD.later hO10.out (w' := w10.drew) ((Below.refl w10.heap.size w10).drew)).push ((p : Int), y3, (i : Int), jv, y2) (by have := HLm; omega) (by have := hb10.out.size; have e9 := HW0.out; show w.heap.size + 1 ≤ w10.heap.size; omega)
            rw [hm2.out] at r9 ho9
            simp only at r9
            have HR9 := hidP r9
            have HO9 := hidP ho9
            have HB9 := hidP ((hb10.out.drew).trans hb9)
            have HS0 := HSt.out w10.drew hb10.out.drew
            have HS1 := HSt.out (w10.drew.alloc (.cells #[.int .i64 (p : Int), .int .i64 y3, .int .i64 (i : Int), .int .i64 jv, .int .i64 y2] 86)) ((hb10.out.drew).alloc (by have := hb10.out.size; have e9 := HW0.out; show w.heap.size + 1 ≤ w10.heap.size; omega) _)
            have HS2 := HSt.out w9 HB9.out
            clear r9 ho9 hb9
            refine region_anyL (HeldSx w.heap.size (p : Int) (q : Int) (i : Int) (j : Int) by9 (oy + t * 4) y0 y1 y2 y3) 1000 (by kernel_rfl) ?_
            refine anyL_take (i := 0) (v := ?v0_71) at0 (by kernel_rfl) (by kernel_rfl) (by kernel_rfl) (by kernel_rfl) (fun _ _ _ h => h) rfl ?y0_71 HS0 ?r0_71
            case y0_71 => intro wx hx; obtain ⟨⟨h0, h1, h2, h3⟩, h4, h5, h6, h7⟩ := hx; go_simp; try (with_reducible rfl)
            simp only [Act.put, List.setIfInBounds_toArray, List.set_cons_zero, List.set_cons_succ]
            refine anyL_take (i := 1) (v := ?v1_72) (atS at0) (by kernel_rfl) (by kernel_rfl) (by kernel_rfl) (by kernel_rfl) (fun _ _ _ h => h) rfl ?y1_72 HS0 ?r1_72
            case y1_72 => intro wx hx; obtain ⟨⟨h0, h1, h2, h3⟩, h4, h5, h6, h7⟩ := hx; go_simp; try (with_reducible rfl)
            simp only [Act.put, List.setIfInBounds_toArray, List.set_cons_zero, List.set_cons_succ]
            refine anyL_take (i := 2) (v := ?v2_73) (atS (atS at0)) (by kernel_rfl) (by kernel_rfl) (by kernel_rfl) (by kernel_rfl) (fun _ _ _ h => h) rfl ?y2_73 HS0 ?r2_73
            case y2_73 => intro wx hx; obtain ⟨⟨h0, h1, h2, h3⟩, h4, h5, h6, h7⟩ := hx; go_simp; try (with_reducible rfl)
            simp only [Act.put, List.setIfInBounds_toArray, List.set_cons_zero, List.set_cons_succ]
            refine anyL_take (i := 3) (v := ?v3_74) (atS (atS (atS at0))) (by kernel_rfl) (by kernel_rfl) (by kernel_rfl) (by kernel_rfl) (fun _ _ _ h => h) rfl ?y3_74 HS0 ?r3_74
            case y3_74 => intro wx hx; obtain ⟨⟨h0, h1, h2, h3⟩, h4, h5, h6, h7⟩ := hx; go_simp; try (with_reducible rfl)
            simp only [Act.put, List.setIfInBounds_toArray, List.set_cons_zero, List.set_cons_succ]
            refine anyL_take (i := 4) (v := ?v4_75) (atS (atS (atS (atS at0)))) (by kernel_rfl) (by kernel_rfl) (by kernel_rfl) (by kernel_rfl) (fun _ _ _ h => h) rfl ?y4_75 HS0 ?r4_75
            case y4_75 => intro wx hx; obtain ⟨⟨h0, h1, h2, h3⟩, h4, h5, h6, h7⟩ := hx; go_simp; try (with_reducible rfl)
            simp only [Act.put, List.setIfInBounds_toArray, List.set_cons_zero, List.set_cons_succ]
            refine anyL_take (i := 5) (v := ?v5_76) (atS (atS (atS (atS (atS at0))))) (by kernel_rfl) (by kernel_rfl) (by kernel_rfl) (by kernel_rfl) (fun _ _ _ h => h) rfl ?y5_76 HS0 ?r5_76
            case y5_76 => intro wx hx; obtain ⟨⟨h0, h1, h2, h3⟩, h4, h5, h6, h7⟩ := hx; go_simp; try (with_reducible rfl)
            simp only [Act.put, List.setIfInBounds_toArray, List.set_cons_zero, List.set_cons_succ]
            refine anyL_take (i := 6) (v := ?v6_77) (atS (atS (atS (atS (atS (atS at0)))))) (by kernel_rfl) (by kernel_rfl) (by kernel_rfl) (by kernel_rfl) (fun _ _ _ h => h) rfl ?y6_77 HS0 ?r6_77
            case y6_77 => intro wx hx; obtain ⟨⟨h0, h1, h2, h3⟩, h4, h5, h6, h7⟩ := hx; go_simp; try (with_reducible rfl)
            simp only [Act.put, List.setIfInBounds_toArray, List.set_cons_zero, List.set_cons_succ]
            refine anyL_take (i := 7) (v := ?v7_78) (atS (atS (atS (atS (atS (atS (atS at0))))))) (by kernel_rfl) (by kernel_rfl) (by kernel_rfl) (by kernel_rfl) (fun _ _ _ h => h) rfl ?y7_78 HS0 ?r7_78
            case y7_78 => intro wx hx; obtain ⟨⟨h0, h1, h2, h3⟩, h4, h5, h6, h7⟩ := hx; go_simp; try (with_reducible rfl)
            simp only [Act.put, List.setIfInBounds_toArray, List.set_cons_zero, List.set_cons_succ]
            refine anyL_take (i := 8) (v := ?v8_79) (atS (atS (atS (atS (atS (atS (atS (atS at0)))))))) (by kernel_rfl) (by kernel_rfl) (by kernel_rfl) (by kernel_rfl) (fun _ _ _ h => h) rfl ?y8_79 HS0 ?r8_79
            case y8_79 => intro wx hx; obtain ⟨⟨h0, h1, h2, h3⟩, h4, h5, h6, h7⟩ := hx; go_simp; try (with_reducible rfl)
            simp only [Act.put, List.setIfInBounds_toArray, List.set_cons_zero, List.set_cons_succ]
            refine anyL_take (i := 9) (v := ?v9_80) (atS (atS (atS (atS (atS (atS (atS (atS (atS at0))))))))) (by kernel_rfl) (by kernel_rfl) (by kernel_rfl) (by kernel_rfl) (fun _ _ _ h => h) rfl ?y9_80 HS0 ?r9_80
            case y9_80 => intro wx hx; obtain ⟨⟨h0, h1, h2, h3⟩, h4, h5, h6, h7⟩ := hx; go_simp; try (with_reducible rfl)
            simp only [Act.put, List.setIfInBounds_toArray, List.set_cons_zero, List.set_cons_succ]
            refine anyL_take (i := 10) (v := ?v10_81) (atS (atS (atS (atS (atS (atS (atS (atS (atS (atS at0)))))))))) (by kernel_rfl) (by kernel_rfl) (by kernel_rfl) (by kernel_rfl) (fun _ _ _ h => h) rfl ?y10_81 HS0 ?r10_81
            case y10_81 => intro wx hx; obtain ⟨⟨h0, h1, h2, h3⟩, h4, h5, h6, h7⟩ := hx; go_simp; try (with_reducible rfl)
            simp only [Act.put, List.setIfInBounds_toArray, List.set_cons_zero, List.set_cons_succ]
            refine anyL_take (i := 11) (v := ?v11_82) (atS (atS (atS (atS (atS (atS (atS (atS (atS (atS (atS at0))))))))))) (by kernel_rfl) (by kernel_rfl) (by kernel_rfl) (by kernel_rfl) (fun _ _ _ h => h) rfl ?y11_82 HS0 ?r11_82
            case y11_82 => intro wx hx; obtain ⟨⟨h0, h1, h2, h3⟩, h4, h5, h6, h7⟩ := hx; go_simp; try (with_reducible rfl)
            simp only [Act.put, List.setIfInBounds_toArray, List.set_cons_zero, List.set_cons_succ]
            refine anyL_take (i := 12) (v := ?v12_83) (atS (atS (atS (atS (atS (atS (atS (atS (atS (atS (atS (atS at0)))))))))))) (by kernel_rfl) (by kernel_rfl) (by kernel_rfl) (by kernel_rfl) (fun _ _ _ h => h) rfl ?y12_83 HS0 ?r12_83
            case y12_83 => intro wx hx; obtain ⟨⟨h0, h1, h2, h3⟩, h4, h5, h6, h7⟩ := hx; go_simp; try (with_reducible rfl)
            simp only [Act.put, List.setIfInBounds_toArray, List.set_cons_zero, List.set_cons_succ]
            refine anyL_take (i := 13) (v := ?v13_84) (atS (atS (atS (atS (atS (atS (atS (atS (atS (atS (atS (atS (atS at0))))))))))))) (by kernel_rfl) (by kernel_rfl) (by kernel_rfl) (by kernel_rfl) (fun _ _ _ h => h) rfl ?y13_84 HS0 ?r13_84
            case y13_84 => intro wx hx; obtain ⟨⟨h0, h1, h2, h3⟩, h4, h5, h6, h7⟩ := hx; go_simp; try (with_reducible rfl)
            simp only [Act.put, List.setIfInBounds_toArray, List.set_cons_zero, List.set_cons_succ]
            refine anyL_take (i := 14) (v := ?v14_85) (atS (atS (atS (atS (atS (atS (atS (atS (atS (atS (atS (atS (atS (atS at0)))))))))))))) (by kernel_rfl) (by kernel_rfl) (by kernel_rfl) (by kernel_rfl) (fun _ _ _ h => h) rfl ?y14_85 HS0 ?r14_85
            case y14_85 => intro wx hx; obtain ⟨⟨h0, h1, h2, h3⟩, h4, h5, h6, h7⟩ := hx; go_simp; try (with_reducible rfl)
            simp only [Act.put, List.setIfInBounds_toArray, List.set_cons_zero, List.set_cons_succ]
            refine anyL_take (i := 15) (v := ?v15_86) (atS (atS (atS (atS (atS (atS (atS (atS (atS (atS (atS (atS (atS (atS (atS at0))))))))))))))) (by kernel_rfl) (by kernel_rfl) (by kernel_rfl) (by kernel_rfl) (fun _ _ _ h => h) rfl ?y15_86 HS0 ?r15_86
            case y15_86 => intro wx hx; obtain ⟨⟨h0, h1, h2, h3⟩, h4, h5, h6, h7⟩ := hx; go_simp; try (with_reducible rfl)
            simp only [Act.put, List.setIfInBounds_toArray, List.set_cons_zero, List.set_cons_succ]
            refine anyL_take (i := 16) (v := ?v16_87) (atS (atS (atS (atS (atS (atS (atS (atS (atS (atS (atS (atS (atS (atS (atS (atS at0)))))))))))))))) (by kernel_rfl) (by kernel_rfl) (by kernel_rfl) (by kernel_rfl) (fun _ _ _ h => h) rfl ?y16_87 HS0 ?r16_87
            case y16_87 => intro wx hx; obtain ⟨⟨h0, h1, h2, h3⟩, h4, h5, h6, h7⟩ := hx; go_simp; try (with_reducible rfl)
            simp only [Act.put, List.setIfInBounds_toArray, List.set_cons_zero, List.set_cons_succ]
            refine anyL_take (i := 17) (v := ?v17_88) (atS (atS (atS (atS (atS (atS (atS (atS (atS (atS (atS (atS (atS (atS (atS (atS (atS at0))))))))))))))))) (by kernel_rfl) (by kernel_rfl) (by kernel_rfl) (by kernel_rfl) (fun _ _ _ h => h) rfl ?y17_88 HS0 ?r17_88
            case y17_88 => intro wx hx; obtain ⟨⟨h0, h1, h2, h3⟩, h4, h5, h6, h7⟩ := hx; go_simp; try (with_reducible rfl)
            simp only [Act.put, List.setIfInBounds_toArray, List.set_cons_zero, List.set_cons_succ]
            refine anyL_one (i := 18) (atS (atS (atS (atS (atS (atS (atS (atS (atS (atS (atS (atS (atS (atS (atS (atS (atS (atS at0)))))))))))))))))) (by kernel_rfl) rfl (fun K hK => ?_)
            go_simp
            refine hK _ _ (.inr HS1) ?_
            try simp only [Act.put, List.setIfInBounds_toArray, List.set_cons_zero, List.set_cons_succ]
            refine anyL_one (i := 19) (atS (atS (atS (atS (atS (atS (atS (atS (atS (atS (atS (atS (atS (atS (atS (atS (atS (atS (atS at0))))))))))))))))))) (by kernel_rfl) rfl (fun K hK => ?_)
            refine wp_append_run (.tmp 144) (.tmp 162) 83 rfl rfl rfl HR9.out ?_
            refine hK _ _ (.inr HS2) ?_
            try simp only [Act.put, List.setIfInBounds_toArray, List.set_cons_zero, List.set_cons_succ]
            refine anyL_take (i := 20) (v := ?v20_89) (atS (atS (atS (atS (atS (atS (atS (atS (atS (atS (atS (atS (atS (atS (atS (atS (atS (atS (atS (atS at0)))))))))))))))))))) (by kernel_rfl) (by kernel_rfl) (by kernel_rfl) (by kernel_rfl) (fun _ _ _ h => h) rfl ?y20_89 HS2 ?r20_89
            case y20_89 => intro wx hx; obtain ⟨⟨h0, h1, h2, h3⟩, h4, h5, h6, h7⟩ := hx; go_simp; try (with_reducible rfl)
            simp only [Act.put, List.setIfInBounds_toArray, List.set_cons_zero, List.set_cons_succ]
            refine anyL_done (by kernel_rfl) (NoPanic.normal ?_)
            try simp only [Act.put, List.setIfInBounds_toArray, List.set_cons_zero, List.set_cons_succ]
            clear HS0 HS1 HS2 HR9
            go_wp2
            go_roundw
            case rel => exact ⟨t + 1, m2 + 1, _, rfl, by go_num, by omega, (by rw [HN.out]; show _ = _; rw [List.length_append, hm2.out]; rfl), by rw [HN.out]; exact HO9, HB9⟩
            case measure => simp [intOf]; omega
          · have HN : Hid (Lk ++ (ys.take (t + 1)).flatMap (sdY u (p, q, i, j)) = Lk ++ (ys.take t).flatMap (sdY u (p, q, i, j))) := by show _ = _; rw [HLt.out, if_neg hy, List.append_nil]
            have hc : (y0 == 0) = false ∨ ((y0 == 0) = true ∧ ¬ jv ≥ 0) := by
              by_cases g : y0 = 0
              · right; exact ⟨by simpa using g, fun h => hy ⟨g, h⟩⟩
              · left; simpa using g
            clear hy
            rcases hc with hyb | ⟨hyb, hjg⟩
            · go_wp2
              go_roundw
              case rel => exact ⟨t + 1, m2, _, rfl, by go_num, by omega, by rw [HN.out]; exact hm2, by rw [HN.out]; exact hO10, hb10⟩
              case measure => simp [intOf]; omega
            · have hjb : decide (jv ≥ 0) = false := decide_eq_false hjg
              go_wp2
              go_roundw
              case rel => exact ⟨t + 1, m2, _, rfl, by go_num, by omega, by rw [HN.out]; exact hm2, by rw [HN.out]; exact hO10, hb10⟩
              case measure => simp [intOf]; omega
        · have t1 : ¬ (t : Int) < (ys.length : Int) := by omega
          obtain rfl : t = ys.length := by omega
          rw [HTE.out] at hm2 hO
          have HBE := hidP (HB0.out.trans (hb.out.mono (Nat.le_succ _)))
          go_wp2
          go_ret
          exact ⟨_, _, m2, rfl, hm2.out, hO.out, HBE.out⟩
end Go.Proofs.Ythcfkiinjcbajaa.Wt
namespace Go.Proofs.Ythcfkiinjcbajaa.Wt
open Go.ChangeShapes Go.WideShapes Go.ChangeAt Go.RowKit
open Go.Proofs.Ythcfkiinjcbajaa.Pl
set_option linter.unusedVariables false
set_option linter.unusedSimpArgs false
set_option maxRecDepth 100000 in
set_option maxHeartbeats 1600000 in
theorem at_any (n X Z p q i j bn bx bz cx cz : Nat) (ax az : Option Addr) (w : World) (hn : Blk w bn #[.int .i64 (n : Int)] 3) (hx : Blk w bx #[.slice ax X cx] 40) (hz : Blk w bz #[.slice az Z cz] 40) (ln : n ≤ 60) (lX : X ≤ 12) (lZ : Z ≤ 12) (lp : p ≤ 60) (lq : q ≤ 60) (li : i ≤ 12) (lj : j ≤ 12) :
    Calls Try.prog 38 #[.agg #[.int .i64 (p : Int), .int .i64 (q : Int), .int .i64 (i : Int), .int .i64 (j : Int)], .pointer (some ⟨bn, 0, none⟩), .pointer (some ⟨bx, 0, none⟩), .pointer (some ⟨bz, 0, none⟩)] w fun e w' => e = .returned (.int .i64 ((ixS n X Z p q i j : Nat) : Int)) ∧ Below w.heap.size w w' := by
  have b1 : p * n ≤ 60 * 60 := Nat.mul_le_mul lp ln
  have b2 : (p * n + q) * (X + 1) ≤ 3660 * 13 := Nat.mul_le_mul (by omega) (by omega)
  have b3 : ((p * n + q) * (X + 1) + i) * (Z + 1) ≤ 47600 * 13 := Nat.mul_le_mul (by omega) (by omega)
  have HE : Hid (((ixS n X Z p q i j : Nat) : Int) = (((p : Int) * (n : Int) + (q : Int)) * ((X : Int) + 1) + (i : Int)) * ((Z : Int) + 1) + (j : Int)) := by
    show _ = _
    unfold ixS
    simp only [Int.natCast_add, Int.natCast_mul, Int.natCast_one]
  have c1 : ((p * n : Nat) : Int) = (p : Int) * (n : Int) := by simp
  have c2 : (((p * n + q) * (X + 1) : Nat) : Int) = ((p : Int) * (n : Int) + (q : Int)) * ((X : Int) + 1) := by simp
  have c3 : ((((p * n + q) * (X + 1) + i) * (Z + 1) : Nat) : Int) = (((p : Int) * (n : Int) + (q : Int)) * ((X : Int) + 1) + (i : Int)) * ((Z : Int) + 1) := by simp
  generalize h1 : (p : Int) * (n : Int) = m1 at *
  generalize h2 : (m1 + (q : Int)) * ((X : Int) + 1) = m2 at *
  generalize h3 : (m2 + (i : Int)) * ((Z : Int) + 1) = m3 at *
  have w1 : IntKind.i64.wrap m1 = m1 := wrapI (by omega) (by omega)
  have w2 : IntKind.i64.wrap (m1 + (q : Int)) = m1 + (q : Int) := wrapI (by omega) (by omega)
  have w3 : IntKind.i64.wrap ((X : Int) + 1) = (X : Int) + 1 := wrapI (by omega) (by omega)
  have w4 : IntKind.i64.wrap m2 = m2 := wrapI (by omega) (by omega)
  have w5 : IntKind.i64.wrap (m2 + (i : Int)) = m2 + (i : Int) := wrapI (by omega) (by omega)
  have w6 : IntKind.i64.wrap ((Z : Int) + 1) = (Z : Int) + 1 := wrapI (by omega) (by omega)
  have w7 : IntKind.i64.wrap m3 = m3 := wrapI (by omega) (by omega)
  have w8 : IntKind.i64.wrap (m3 + (j : Int)) = m3 + (j : Int) := wrapI (by omega) (by omega)
  have d0 := hn.cell 0 (v := .int .i64 (n : Int)) rfl
  have d1 := hx.cell 0 (v := .slice ax X cx) rfl
  have d2 := hz.cell 0 (v := .slice az Z cz) rfl
  have s0 := hn.lt
  have s1 := hx.lt
  have s2 := hz.lt
  clear c1 c2 c3 b1 b2 b3 hn hx hz
  go_enter Try.func38, Try.ntmps38
  go_wp2
  go_ret
  exact ⟨ret_intK HE.out.symm, by go_grown⟩
end Go.Proofs.Ythcfkiinjcbajaa.Wt
