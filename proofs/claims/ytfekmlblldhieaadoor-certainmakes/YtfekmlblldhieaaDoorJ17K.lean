/- Whether an arc stands ahead of another, by the reference. The reference puts arcs in order, one by one. The reference: sets compared, the least of a list. The reference: what lies behind a pair of labels. The reference: the pairs of labels of a set, in order. -/
import Derived.Test.YtfekmlblldhieaaDoorMc
import Derived.Test.YtfekmlblldhieaaDoorJ17a
import Derived.Test.YtfekmlblldhieaaDoorAn
import Derived.Test.YtfekmlblldhieaaDoorJ17d
import Derived.Test.YtfekmlblldhieaaDoorMcC
import Derived.Test.YtfekmlblldhieaaDoorJ17j
import Derived.Test.YtfekmlblldhieaaDoorRn
import Derived.Test.YtfekmlblldhieaaDoorRg
import Derived.Test.YtfekmlblldhieaaDoorJ17f
import Derived.BigQuiet
import Derived.Deep.QuietTactic
import Derived.RegionTactic
import Derived.ChangeAlike
import Derived.Deep.DeepCutAuto
namespace Go.Proofs.YtfekmlblldhieaaDoor.Wt
open Go.ChangeShapes Go.WideShapes Go.ChangeAt Go.RowKit
open Go.Proofs.YtfekmlblldhieaaDoor.Pl
set_option linter.unusedVariables false
set_option linter.unusedSimpArgs false
theorem refAhead (a b : Ar) (w : World) (r : Bool) (hr : aheadB a b = r) : Calls Tryd.prog 44 #[.agg #[.int .i64 a.1, .int .i64 a.2.1, .int .i64 a.2.2.1, .int .i64 a.2.2.2], .agg #[.int .i64 b.1, .int .i64 b.2.1, .int .i64 b.2.2.1, .int .i64 b.2.2.2]] w fun e w' => e = .returned (.bool r) ∧ Below w.heap.size w w' := by
  subst hr
  obtain ⟨a0, a1, a2, a3⟩ := a
  obtain ⟨b0, b1, b2, b3⟩ := b
  unfold aheadB
  simp only
  by_cases h0 : a0 = b0
  · have e0 : (a0 != b0) = false := by simpa using h0
    rw [if_pos h0]
    by_cases h1 : a1 = b1
    · have e1 : (a1 != b1) = false := by simpa using h1
      rw [if_pos h1]
      by_cases h3 : a3 = b3
      · have e3 : (a3 != b3) = false := by simpa using h3
        rw [if_pos h3]
        clear h0 h1 h3
        go_enter Tryd.func44, Tryd.ntmps44
        go_wp2
        go_ret
        exact ⟨rfl, by go_grown⟩
      · have e3 : (a3 != b3) = true := by simpa using h3
        rw [if_neg h3]
        clear h0 h1 h3
        go_enter Tryd.func44, Tryd.ntmps44
        go_wp2
        go_ret
        exact ⟨rfl, by go_grown⟩
    · have e1 : (a1 != b1) = true := by simpa using h1
      rw [if_neg h1]
      clear h0 h1
      go_enter Tryd.func44, Tryd.ntmps44
      go_wp2
      go_ret
      exact ⟨rfl, by go_grown⟩
  · have e0 : (a0 != b0) = true := by simpa using h0
    rw [if_neg h0]
    clear h0
    go_enter Tryd.func44, Tryd.ntmps44
    go_wp2
    go_ret
    exact ⟨rfl, by go_grown⟩
end Go.Proofs.YtfekmlblldhieaaDoor.Wt
namespace Go.Proofs.YtfekmlblldhieaaDoor.Wt
open Go.ChangeShapes Go.WideShapes Go.ChangeAt Go.RowKit
open Go.Proofs.YtfekmlblldhieaaDoor.Pl
set_option linter.unusedVariables false
set_option linter.unusedSimpArgs false
def HeldPa (B b off : Nat) (a p : Ar) (k : Nat) (w : World) : Prop :=
  (w.cell? ⟨B, 0, none⟩ = some (.int .i64 a.1) ∧ w.cell? ⟨B, 1, none⟩ = some (.int .i64 a.2.1) ∧ w.cell? ⟨B, 2, none⟩ = some (.int .i64 a.2.2.1) ∧ w.cell? ⟨B, 3, none⟩ = some (.int .i64 a.2.2.2)) ∧
  (w.cell? ⟨b, off + k * 4, none⟩ = some (.int .i64 p.1) ∧ w.cell? ⟨b, off + k * 4 + 1, none⟩ = some (.int .i64 p.2.1) ∧ w.cell? ⟨b, off + k * 4 + 2, none⟩ = some (.int .i64 p.2.2.1) ∧ w.cell? ⟨b, off + k * 4 + 3, none⟩ = some (.int .i64 p.2.2.2))
theorem HeldPa.below {B b off k : Nat} {a p : Ar} {w w' : World} (h : HeldPa B b off a p k w) (hb : Below (B + 1) w w') (hB : b < B) : HeldPa B b off a p k w' := by
  obtain ⟨⟨h1, h2, h3, h4⟩, h5, h6, h7, h8⟩ := h
  exact ⟨⟨(hb.cell (show B < _ by omega)).trans h1, (hb.cell (show B < _ by omega)).trans h2, (hb.cell (show B < _ by omega)).trans h3, (hb.cell (show B < _ by omega)).trans h4⟩, (hb.cell (show b < _ by omega)).trans h5, (hb.cell (show b < _ by omega)).trans h6, (hb.cell (show b < _ by omega)).trans h7, (hb.cell (show b < _ by omega)).trans h8⟩
theorem drop_el {l : List Ar} {k : Nat} (h : k < l.length) : l.drop k = el l k :: l.drop (k + 1) := by rw [List.drop_eq_getElem_cons h, el_get h]
set_option maxRecDepth 100000 in
set_option maxHeartbeats 3200000 in
theorem placed_any (v : Value) (l : List Ar) (a : Ar) (w : World) (h : Arcs w v l) (hl : l.length * 32 ≤ 140737488351232) :
    Calls Tryd.prog 60 #[v, .agg #[.int .i64 a.1, .int .i64 a.2.1, .int .i64 a.2.2.1, .int .i64 a.2.2.2]] w fun e w' => ∃ v', e = .returned v' ∧ w'.ownsRow w.heap.size 63 4 v' (placeL l a).length ((placeL l a).flatMap encA) ∧ Below w.heap.size w w' := by
  obtain ⟨i0, hi0, hz0, hz1, hz2⟩ := info_parts infoArc
  obtain ⟨sa, cap, rfl, hc⟩ := h.get
  have HC : Hid (∀ j, j < l.length → ∃ b off, sa = some ⟨b, off, none⟩ ∧ b < w.heap.size ∧ w.cell? ⟨b, off + j * 4, none⟩ = some (.int .i64 (el l j).1) ∧ w.cell? ⟨b, off + j * 4 + 1, none⟩ = some (.int .i64 (el l j).2.1) ∧ w.cell? ⟨b, off + j * 4 + 2, none⟩ = some (.int .i64 (el l j).2.2.1) ∧ w.cell? ⟨b, off + j * 4 + 3, none⟩ = some (.int .i64 (el l j).2.2.2)) := hc
  clear h hc
  have HPL : Hid ((placeL l a).length = l.length + 1) := placeL_length l a
  generalize hn : l.length = n at *
  have HN : Hid (l.length = n) := hn
  clear hn
  go_enter Tryd.func60, Tryd.ntmps60
  go_wp2
  go_loopw [5, 6, 7] (fun s5 dn i wr => ∃ (k : Nat) (d : Bool) (o : List Ar) (vo : Value), k ≤ n ∧ vo = s5 ∧ dn = .bool d ∧ i = .int .i64 k ∧ Hid (o.length ≤ k + d.toNat) ∧ Hid (o ++ (if d then l.drop k else placeL (l.drop k) a) = placeL l a) ∧ Hid (wr.ownsRow (w.heap.size + 1) 63 4 vo o.length (o.flatMap encA)) ∧ Hid (Blk wr w.heap.size #[.int .i64 a.1, .int .i64 a.2.1, .int .i64 a.2.2.1, .int .i64 a.2.2.2] 63) ∧ Hid (Below w.heap.size w wr) ∧ w.heap.size + 1 ≤ wr.heap.size) (fun _ _ i _ => n - (intOf i).toNat)
  case atStart => exact ⟨0, false, [], _, Nat.zero_le _, rfl, rfl, rfl, Nat.zero_le _, rfl, World.ownsRow_nil _ _ _ _, Blk.made _ _ _, by (show Below _ _ _); go_grown, by simp⟩
  case round =>
    obtain ⟨k, d, o, vo, hk, rfl, rfl, rfl, hol, hoe, hown, hbk, hb, hs⟩ := hrel
    by_cases hlt : k < n
    · obtain ⟨b, off, rfl, hbl, g0, g1, g2, g3⟩ := HC.out k hlt
      have HD : Hid (l.drop k = el l k :: l.drop (k + 1)) := drop_el (by rw [HN.out]; exact hlt)
      have HS : HeldPa w.heap.size b off a (el l k) k wr.drew := ⟨⟨hbk.out.cell 0 rfl, hbk.out.cell 1 rfl, hbk.out.cell 2 rfl, hbk.out.cell 3 rfl⟩, (hb.out.cell (p := ⟨b, off + k * 4, none⟩) hbl).trans g0, (hb.out.cell (p := ⟨b, off + k * 4 + 1, none⟩) hbl).trans g1, (hb.out.cell (p := ⟨b, off + k * 4 + 2, none⟩) hbl).trans g2, (hb.out.cell (p := ⟨b, off + k * 4 + 3, none⟩) hbl).trans g3⟩
      clear g0 g1 g2 g3
      have hk0' : (0 : Int) ≤ (k : Int) := Int.natCast_nonneg _
      have hk1' : (k : Int) < (n : Int) := by omega
      generalize el l k = p at *
      have hnot : ∀ (x : Bool) (w : World), (Op.unary .not (.bool x)).run Tryd.prog w = .ok (.bool (!x)) w := fun _ _ => rfl
      cases d
      · have hol : Hid (o.length ≤ k) := hol
        rcases bool_cases' (aheadB a p) with ha | ha
        · have HA : Hid (aheadB a p = true) := ha
          have HE : Hid (o ++ [a] ++ [p] ++ (if true then l.drop (k + 1) else placeL (l.drop (k + 1)) a) = placeL l a) := by
            have h := hoe.out
            rw [HD.out] at h
            simp only [placeL, ha, if_true] at h
            show _ = _
            rw [if_pos rfl, ← h]; simp
          clear ha
          go_wp2
          refine region_anyL (HeldPa w.heap.size b off a p k) 1000 (by kernel_rfl) ?_
          refine anyL_take (i := 0) (v := ?v0_1) at0 (by kernel_rfl) (by kernel_rfl) (by kernel_rfl) (by kernel_rfl) (fun _ _ _ h => h) rfl ?y0_1 HS ?r0_1
          case y0_1 => intro wx hx; obtain ⟨⟨h1, h2, h3, h4⟩, h5, h6, h7, h8⟩ := hx; go_simp; try (with_reducible rfl)
          simp only [Act.put, List.setIfInBounds_toArray, List.set_cons_zero, List.set_cons_succ]
          refine anyL_take (i := 1) (v := ?v1_2) (atS at0) (by kernel_rfl) (by kernel_rfl) (by kernel_rfl) (by kernel_rfl) (fun _ _ _ h => h) rfl ?y1_2 HS ?r1_2
          case y1_2 => intro wx hx; obtain ⟨⟨h1, h2, h3, h4⟩, h5, h6, h7, h8⟩ := hx; go_simp; try (with_reducible rfl)
          simp only [Act.put, List.setIfInBounds_toArray, List.set_cons_zero, List.set_cons_succ]
          refine anyL_take (i := 2) (v := ?v2_3) (atS (atS at0)) (by kernel_rfl) (by kernel_rfl) (by kernel_rfl) (by kernel_rfl) (fun _ _ _ h => h) rfl ?y2_3 HS ?r2_3
          case y2_3 => intro wx hx; obtain ⟨⟨h1, h2, h3, h4⟩, h5, h6, h7, h8⟩ := hx; go_simp; try (with_reducible rfl)
          simp only [Act.put, List.setIfInBounds_toArray, List.set_cons_zero, List.set_cons_succ]
          refine anyL_takeG (i := 3) (v := ?v3_13) (atS (atS (atS at0))) (by kernel_rfl) (by kernel_rfl) (by kernel_rfl) (by kernel_rfl) (fun _ _ _ h => h) (by rfl) ?y3_13 HS ?r3_13
          case y3_13 => intro wx hx; obtain ⟨⟨h1, h2, h3, h4⟩, h5, h6, h7, h8⟩ := hx; go_simp; try (with_reducible rfl)
          simp only [Act.put, List.setIfInBounds_toArray, List.set_cons_zero, List.set_cons_succ]
          refine anyL_takeG (i := 4) (v := ?v4_14) (atS (atS (atS (atS at0)))) (by kernel_rfl) (by kernel_rfl) (by kernel_rfl) (by kernel_rfl) (fun _ _ _ h => h) (by rfl) ?y4_14 HS ?r4_14
          case y4_14 => intro wx hx; obtain ⟨⟨h1, h2, h3, h4⟩, h5, h6, h7, h8⟩ := hx; go_simp; try (with_reducible rfl)
          simp only [Act.put, List.setIfInBounds_toArray, List.set_cons_zero, List.set_cons_succ]
          refine anyL_takeG (i := 5) (v := ?v5_15) (atS (atS (atS (atS (atS at0))))) (by kernel_rfl) (by kernel_rfl) (by kernel_rfl) (by kernel_rfl) (fun _ _ _ h => h) (by rfl) ?y5_15 HS ?r5_15
          case y5_15 => intro wx hx; obtain ⟨⟨h1, h2, h3, h4⟩, h5, h6, h7, h8⟩ := hx; go_simp; try (with_reducible rfl)
          simp only [Act.put, List.setIfInBounds_toArray, List.set_cons_zero, List.set_cons_succ]
          refine anyL_takeG (i := 6) (v := ?v6_16) (atS (atS (atS (atS (atS (atS at0)))))) (by kernel_rfl) (by kernel_rfl) (by kernel_rfl) (by kernel_rfl) (fun _ _ _ h => h) (by rfl) ?y6_16 HS ?r6_16
          case y6_16 => intro wx hx; obtain ⟨⟨h1, h2, h3, h4⟩, h5, h6, h7, h8⟩ := hx; go_simp; try (with_reducible rfl)
          simp only [Act.put, List.setIfInBounds_toArray, List.set_cons_zero, List.set_cons_succ]
          refine anyL_takeG (i := 7) (v := ?v7_17) (atS (atS (atS (atS (atS (atS (atS at0))))))) (by kernel_rfl) (by kernel_rfl) (by kernel_rfl) (by kernel_rfl) (fun _ _ _ h => h) (by rfl) ?y7_17 HS ?r7_17
          case y7_17 => intro wx hx; obtain ⟨⟨h1, h2, h3, h4⟩, h5, h6, h7, h8⟩ := hx; go_simp; try (with_reducible rfl)
          simp only [Act.put, List.setIfInBounds_toArray, List.set_cons_zero, List.set_cons_succ]
          refine anyL_oneG (i := 8) (atS (atS (atS (atS (atS (atS (atS (atS at0)))))))) (by kernel_rfl) (by rfl) (fun K hK => ?_)
          go_simp
          refine (refAhead a p _ true HA.out).mono ?_
          rintro e w1 ⟨rfl, hb1⟩
          have hbA : Below wr.heap.size wr w1 := ⟨hb1.os, hb1.tape, hb1.output, hb1.size, hb1.block⟩
          have HS1 : HeldPa w.heap.size b off a p k w1 := HeldPa.below (w := wr) HS (hbA.mono hs) hbl
          have HO : Hid (w1.ownsRow (w.heap.size + 1) 63 4 vo o.length (o.flatMap encA)) := own_below' hown.out hbA
          have HZ : Hid (w.heap.size + 1 ≤ w1.heap.size) := Nat.le_trans hs hbA.size
          have HBK : Hid (Blk w1 w.heap.size #[.int .i64 a.1, .int .i64 a.2.1, .int .i64 a.2.2.1, .int .i64 a.2.2.2] 63) := hbk.out.below hbA (by omega)
          have HBB : Hid (Below w.heap.size w w1) := hb.out.trans (hbA.mono hb.out.size)
          refine hK _ _ (.inr HS1) ?_
          try simp only [Act.put, List.setIfInBounds_toArray, List.set_cons_zero, List.set_cons_succ]
          refine anyL_take (i := 9) (v := ?v9_4) (atS (atS (atS (atS (atS (atS (atS (atS (atS at0))))))))) (by kernel_rfl) (by kernel_rfl) (by kernel_rfl) (by kernel_rfl) (fun _ _ _ h => h) rfl ?y9_4 HS1 ?r9_4
          case y9_4 => intro wx hx; obtain ⟨⟨h1, h2, h3, h4⟩, h5, h6, h7, h8⟩ := hx; go_simp; try (with_reducible rfl)
          simp only [Act.put, List.setIfInBounds_toArray, List.set_cons_zero, List.set_cons_succ]
          refine anyL_done (by kernel_rfl) (NoPanic.normal ?_)
          obtain ⟨⟨h1, h2, h3, h4⟩, h5, h6, h7, h8⟩ := HS1
          clear hown hbk hb hb1 hbA hoe HS
          have hmv := HZ.out
          go_wp2_with (first
            | (at_builtin; refine wpList_append_rows encA_len (by decide) encA_one rfl _ _ 44 rfl (w.heap.size + 1) 63 i0 _ 32 Tryd.underlying44 hi0 hz0 hz1 hz2 rfl _ (o).length ((o).flatMap encA) rfl (HO.out.alloc _) _ [a] rfl (one_arc _ a) (by have := hol.out; simp; unfold maxLen; omega) (by have := hol.out; simp; omega) (by have := HZ.out; simp; omega) ?_; intro v2 w2 ho2 hg2; obtain ⟨HO2, HB2, HZ2⟩ := snoc_facts (HO).out (HZ).out ho2 hg2; clear ho2 hg2; have q5 := (HB2.out.cell (p := ⟨b, off + k * 4, none⟩) (by show b < _; omega)).trans h5; have q6 := (HB2.out.cell (p := ⟨b, off + k * 4 + 1, none⟩) (by show b < _; omega)).trans h6; have q7 := (HB2.out.cell (p := ⟨b, off + k * 4 + 2, none⟩) (by show b < _; omega)).trans h7; have q8 := (HB2.out.cell (p := ⟨b, off + k * 4 + 3, none⟩) (by show b < _; omega)).trans h8)
            | (at_builtin; refine wpList_append_rows encA_len (by decide) encA_one rfl _ _ 44 rfl (w.heap.size + 1) 63 i0 _ 32 Tryd.underlying44 hi0 hz0 hz1 hz2 rfl _ (o ++ [a]).length ((o ++ [a]).flatMap encA) rfl (HO2.out.alloc _) _ [p] rfl (one_arc _ p) (by have := hol.out; simp; unfold maxLen; omega) (by have := hol.out; simp; omega) (by have := HZ2.out; simp; omega) ?_; intro v3 w3 ho3 hg3; obtain ⟨HO3, HB3, HZ3⟩ := snoc_facts (HO2).out (HZ2).out ho3 hg3; clear ho3 hg3))
          go_roundw
          case rel => exact ⟨k + 1, true, _, _, by omega, rfl, rfl, by go_num, by have := hol.out; simp [Hid]; omega, HE, HO3, HBK.out.below (HB2.out.trans HB3.out) (Nat.lt_succ_self _), HBB.out.trans ((HB2.out.trans HB3.out).mono (Nat.le_succ _)), HZ3.out⟩
          case measure => simp [intOf]; omega
        · have HA : Hid (aheadB a p = false) := ha
          have HE : Hid (o ++ [p] ++ (if false then l.drop (k + 1) else placeL (l.drop (k + 1)) a) = placeL l a) := by
            have h := hoe.out
            rw [HD.out] at h
            simp only [placeL, ha] at h
            show _ = _
            rw [← h]; simp
          clear ha
          go_wp2
          refine region_anyL (HeldPa w.heap.size b off a p k) 1000 (by kernel_rfl) ?_
          refine anyL_take (i := 0) (v := ?v0_5) at0 (by kernel_rfl) (by kernel_rfl) (by kernel_rfl) (by kernel_rfl) (fun _ _ _ h => h) rfl ?y0_5 HS ?r0_5
          case y0_5 => intro wx hx; obtain ⟨⟨h1, h2, h3, h4⟩, h5, h6, h7, h8⟩ := hx; go_simp; try (with_reducible rfl)
          simp only [Act.put, List.setIfInBounds_toArray, List.set_cons_zero, List.set_cons_succ]
          refine anyL_take (i := 1) (v := ?v1_6) (atS at0) (by kernel_rfl) (by kernel_rfl) (by kernel_rfl) (by kernel_rfl) (fun _ _ _ h => h) rfl ?y1_6 HS ?r1_6
          case y1_6 => intro wx hx; obtain ⟨⟨h1, h2, h3, h4⟩, h5, h6, h7, h8⟩ := hx; go_simp; try (with_reducible rfl)
          simp only [Act.put, List.setIfInBounds_toArray, List.set_cons_zero, List.set_cons_succ]
          refine anyL_take (i := 2) (v := ?v2_7) (atS (atS at0)) (by kernel_rfl) (by kernel_rfl) (by kernel_rfl) (by kernel_rfl) (fun _ _ _ h => h) rfl ?y2_7 HS ?r2_7
          case y2_7 => intro wx hx; obtain ⟨⟨h1, h2, h3, h4⟩, h5, h6, h7, h8⟩ := hx; go_simp; try (with_reducible rfl)
          simp only [Act.put, List.setIfInBounds_toArray, List.set_cons_zero, List.set_cons_succ]
          refine anyL_takeG (i := 3) (v := ?v3_18) (atS (atS (atS at0))) (by kernel_rfl) (by kernel_rfl) (by kernel_rfl) (by kernel_rfl) (fun _ _ _ h => h) (by rfl) ?y3_18 HS ?r3_18
          case y3_18 => intro wx hx; obtain ⟨⟨h1, h2, h3, h4⟩, h5, h6, h7, h8⟩ := hx; go_simp; try (with_reducible rfl)
          simp only [Act.put, List.setIfInBounds_toArray, List.set_cons_zero, List.set_cons_succ]
          refine anyL_takeG (i := 4) (v := ?v4_19) (atS (atS (atS (atS at0)))) (by kernel_rfl) (by kernel_rfl) (by kernel_rfl) (by kernel_rfl) (fun _ _ _ h => h) (by rfl) ?y4_19 HS ?r4_19
          case y4_19 => intro wx hx; obtain ⟨⟨h1, h2, h3, h4⟩, h5, h6, h7, h8⟩ := hx; go_simp; try (with_reducible rfl)
          simp only [Act.put, List.setIfInBounds_toArray, List.set_cons_zero, List.set_cons_succ]
          refine anyL_takeG (i := 5) (v := ?v5_20) (atS (atS (atS (atS (atS at0))))) (by kernel_rfl) (by kernel_rfl) (by kernel_rfl) (by kernel_rfl) (fun _ _ _ h => h) (by rfl) ?y5_20 HS ?r5_20
          case y5_20 => intro wx hx; obtain ⟨⟨h1, h2, h3, h4⟩, h5, h6, h7, h8⟩ := hx; go_simp; try (with_reducible rfl)
          simp only [Act.put, List.setIfInBounds_toArray, List.set_cons_zero, List.set_cons_succ]
          refine anyL_takeG (i := 6) (v := ?v6_21) (atS (atS (atS (atS (atS (atS at0)))))) (by kernel_rfl) (by kernel_rfl) (by kernel_rfl) (by kernel_rfl) (fun _ _ _ h => h) (by rfl) ?y6_21 HS ?r6_21
          case y6_21 => intro wx hx; obtain ⟨⟨h1, h2, h3, h4⟩, h5, h6, h7, h8⟩ := hx; go_simp; try (with_reducible rfl)
          simp only [Act.put, List.setIfInBounds_toArray, List.set_cons_zero, List.set_cons_succ]
          refine anyL_takeG (i := 7) (v := ?v7_22) (atS (atS (atS (atS (atS (atS (atS at0))))))) (by kernel_rfl) (by kernel_rfl) (by kernel_rfl) (by kernel_rfl) (fun _ _ _ h => h) (by rfl) ?y7_22 HS ?r7_22
          case y7_22 => intro wx hx; obtain ⟨⟨h1, h2, h3, h4⟩, h5, h6, h7, h8⟩ := hx; go_simp; try (with_reducible rfl)
          simp only [Act.put, List.setIfInBounds_toArray, List.set_cons_zero, List.set_cons_succ]
          refine anyL_oneG (i := 8) (atS (atS (atS (atS (atS (atS (atS (atS at0)))))))) (by kernel_rfl) (by rfl) (fun K hK => ?_)
          go_simp
          refine (refAhead a p _ false HA.out).mono ?_
          rintro e w1 ⟨rfl, hb1⟩
          have hbA : Below wr.heap.size wr w1 := ⟨hb1.os, hb1.tape, hb1.output, hb1.size, hb1.block⟩
          have HS1 : HeldPa w.heap.size b off a p k w1 := HeldPa.below (w := wr) HS (hbA.mono hs) hbl
          have HO : Hid (w1.ownsRow (w.heap.size + 1) 63 4 vo o.length (o.flatMap encA)) := own_below' hown.out hbA
          have HZ : Hid (w.heap.size + 1 ≤ w1.heap.size) := Nat.le_trans hs hbA.size
          have HBK : Hid (Blk w1 w.heap.size #[.int .i64 a.1, .int .i64 a.2.1, .int .i64 a.2.2.1, .int .i64 a.2.2.2] 63) := hbk.out.below hbA (by omega)
          have HBB : Hid (Below w.heap.size w w1) := hb.out.trans (hbA.mono hb.out.size)
          refine hK _ _ (.inr HS1) ?_
          try simp only [Act.put, List.setIfInBounds_toArray, List.set_cons_zero, List.set_cons_succ]
          refine anyL_take (i := 9) (v := ?v9_8) (atS (atS (atS (atS (atS (atS (atS (atS (atS at0))))))))) (by kernel_rfl) (by kernel_rfl) (by kernel_rfl) (by kernel_rfl) (fun _ _ _ h => h) rfl ?y9_8 HS1 ?r9_8
          case y9_8 => intro wx hx; obtain ⟨⟨h1, h2, h3, h4⟩, h5, h6, h7, h8⟩ := hx; go_simp; try (with_reducible rfl)
          simp only [Act.put, List.setIfInBounds_toArray, List.set_cons_zero, List.set_cons_succ]
          refine anyL_done (by kernel_rfl) (NoPanic.normal ?_)
          obtain ⟨⟨h1, h2, h3, h4⟩, h5, h6, h7, h8⟩ := HS1
          clear hown hbk hb hb1 hbA hoe HS
          have hmv := HZ.out
          go_wp2_with (first
            | (at_builtin; refine wpList_append_rows encA_len (by decide) encA_one rfl _ _ 44 rfl (w.heap.size + 1) 63 i0 _ 32 Tryd.underlying44 hi0 hz0 hz1 hz2 rfl _ (o).length ((o).flatMap encA) rfl (HO.out.alloc _) _ [p] rfl (one_arc _ p) (by have := hol.out; simp; unfold maxLen; omega) (by have := hol.out; simp; omega) (by have := HZ.out; simp; omega) ?_; intro v2 w2 ho2 hg2; obtain ⟨HO2, HB2, HZ2⟩ := snoc_facts (HO).out (HZ).out ho2 hg2; clear ho2 hg2))
          go_roundw
          case rel => exact ⟨k + 1, false, _, _, by omega, rfl, rfl, by go_num, by have := hol.out; simp [Hid]; omega, HE, HO2, HBK.out.below HB2.out (Nat.lt_succ_self _), HBB.out.trans (HB2.out.mono (Nat.le_succ _)), HZ2.out⟩
          case measure => simp [intOf]; omega
      · have hol : Hid (o.length ≤ k + 1) := hol
        have HE : Hid (o ++ [p] ++ (if true then l.drop (k + 1) else placeL (l.drop (k + 1)) a) = placeL l a) := by
          have h := hoe.out
          rw [if_pos rfl, HD.out] at h
          show _ = _
          rw [if_pos rfl, List.append_assoc]; exact h
        go_wp2
        refine region_anyL (HeldPa w.heap.size b off a p k) 1000 (by kernel_rfl) ?_
        refine anyL_take (i := 0) (v := ?v0_9) at0 (by kernel_rfl) (by kernel_rfl) (by kernel_rfl) (by kernel_rfl) (fun _ _ _ h => h) rfl ?y0_9 HS ?r0_9
        case y0_9 => intro wx hx; obtain ⟨⟨h1, h2, h3, h4⟩, h5, h6, h7, h8⟩ := hx; go_simp; try (with_reducible rfl)
        simp only [Act.put, List.setIfInBounds_toArray, List.set_cons_zero, List.set_cons_succ]
        refine anyL_take (i := 1) (v := ?v1_10) (atS at0) (by kernel_rfl) (by kernel_rfl) (by kernel_rfl) (by kernel_rfl) (fun _ _ _ h => h) rfl ?y1_10 HS ?r1_10
        case y1_10 => intro wx hx; obtain ⟨⟨h1, h2, h3, h4⟩, h5, h6, h7, h8⟩ := hx; go_simp; try (with_reducible rfl)
        simp only [Act.put, List.setIfInBounds_toArray, List.set_cons_zero, List.set_cons_succ]
        refine anyL_take (i := 2) (v := ?v2_11) (atS (atS at0)) (by kernel_rfl) (by kernel_rfl) (by kernel_rfl) (by kernel_rfl) (fun _ _ _ h => h) rfl ?y2_11 HS ?r2_11
        case y2_11 => intro wx hx; obtain ⟨⟨h1, h2, h3, h4⟩, h5, h6, h7, h8⟩ := hx; go_simp; try (with_reducible rfl)
        simp only [Act.put, List.setIfInBounds_toArray, List.set_cons_zero, List.set_cons_succ]
        refine anyL_skip (i := 3) (atS (atS (atS at0))) (by kernel_rfl) (by kernel_rfl) (by kernel_rfl) (by kernel_rfl) (fun _ _ _ h => h) (by rfl) HS ?_
        try simp only [Act.put, List.setIfInBounds_toArray, List.set_cons_zero, List.set_cons_succ]
        refine anyL_skip (i := 4) (atS (atS (atS (atS at0)))) (by kernel_rfl) (by kernel_rfl) (by kernel_rfl) (by kernel_rfl) (fun _ _ _ h => h) (by rfl) HS ?_
        try simp only [Act.put, List.setIfInBounds_toArray, List.set_cons_zero, List.set_cons_succ]
        refine anyL_skip (i := 5) (atS (atS (atS (atS (atS at0))))) (by kernel_rfl) (by kernel_rfl) (by kernel_rfl) (by kernel_rfl) (fun _ _ _ h => h) (by rfl) HS ?_
        try simp only [Act.put, List.setIfInBounds_toArray, List.set_cons_zero, List.set_cons_succ]
        refine anyL_skip (i := 6) (atS (atS (atS (atS (atS (atS at0)))))) (by kernel_rfl) (by kernel_rfl) (by kernel_rfl) (by kernel_rfl) (fun _ _ _ h => h) (by rfl) HS ?_
        try simp only [Act.put, List.setIfInBounds_toArray, List.set_cons_zero, List.set_cons_succ]
        refine anyL_skip (i := 7) (atS (atS (atS (atS (atS (atS (atS at0))))))) (by kernel_rfl) (by kernel_rfl) (by kernel_rfl) (by kernel_rfl) (fun _ _ _ h => h) (by rfl) HS ?_
        try simp only [Act.put, List.setIfInBounds_toArray, List.set_cons_zero, List.set_cons_succ]
        refine anyL_skip (i := 8) (atS (atS (atS (atS (atS (atS (atS (atS at0)))))))) (by kernel_rfl) (by kernel_rfl) (by kernel_rfl) (by kernel_rfl) (fun _ _ _ h => h) (by rfl) HS ?_
        try simp only [Act.put, List.setIfInBounds_toArray, List.set_cons_zero, List.set_cons_succ]
        refine anyL_take (i := 9) (v := ?v9_12) (atS (atS (atS (atS (atS (atS (atS (atS (atS at0))))))))) (by kernel_rfl) (by kernel_rfl) (by kernel_rfl) (by kernel_rfl) (fun _ _ _ h => h) rfl ?y9_12 HS ?r9_12
        case y9_12 => intro wx hx; obtain ⟨⟨h1, h2, h3, h4⟩, h5, h6, h7, h8⟩ := hx; go_simp; try (with_reducible rfl)
        simp only [Act.put, List.setIfInBounds_toArray, List.set_cons_zero, List.set_cons_succ]
        refine anyL_done (by kernel_rfl) (NoPanic.normal ?_)
        obtain ⟨⟨h1, h2, h3, h4⟩, h5, h6, h7, h8⟩ := HS
        have HO : Hid (wr.drew.ownsRow (w.heap.size + 1) 63 4 vo o.length (o.flatMap encA)) := hown
        have HZ : Hid (w.heap.size + 1 ≤ wr.drew.heap.size) := hs
        have HBK : Hid (Blk wr.drew w.heap.size #[.int .i64 a.1, .int .i64 a.2.1, .int .i64 a.2.2.1, .int .i64 a.2.2.2] 63) := hbk
        have HBB : Hid (Below w.heap.size w wr.drew) := hb.out.drew
        clear hown hbk hb hs hoe
        generalize wr.drew = wd at *
        go_wp2_with (first
          | (at_builtin; refine wpList_append_rows encA_len (by decide) encA_one rfl _ _ 44 rfl (w.heap.size + 1) 63 i0 _ 32 Tryd.underlying44 hi0 hz0 hz1 hz2 rfl _ (o).length ((o).flatMap encA) rfl (HO.out.alloc _) _ [p] rfl (one_arc _ p) (by have := hol.out; simp; unfold maxLen; omega) (by have := hol.out; simp; omega) (by have := HZ.out; simp; omega) ?_; intro v2 w2 ho2 hg2; obtain ⟨HO2, HB2, HZ2⟩ := snoc_facts (HO).out (HZ).out ho2 hg2; clear ho2 hg2))
        go_roundw
        case rel => exact ⟨k + 1, true, _, _, by omega, rfl, rfl, by go_num, by have := hol.out; simp [Hid]; omega, HE, HO2, HBK.out.below HB2.out (Nat.lt_succ_self _), HBB.out.trans (HB2.out.mono (Nat.le_succ _)), HZ2.out⟩
        case measure => simp [intOf]; omega
    · have hke : k = n := by omega
      have HDN : Hid (l.drop k = []) := by show _ = _; rw [hke, ← HN.out]; exact List.drop_length
      have hnl : ¬ (k : Int) < (n : Int) := by omega
      have hnot : ∀ (x : Bool) (w : World), (Op.unary .not (.bool x)).run Tryd.prog w = .ok (.bool (!x)) w := fun _ _ => rfl
      have HZ : Hid (w.heap.size + 1 ≤ wr.heap.size) := hs
      have b0 := hbk.out.cell 0 (v := .int .i64 a.1) rfl
      have b1 := hbk.out.cell 1 (v := .int .i64 a.2.1) rfl
      have b2 := hbk.out.cell 2 (v := .int .i64 a.2.2.1) rfl
      have b3 := hbk.out.cell 3 (v := .int .i64 a.2.2.2) rfl
      replace hol : Hid (o.length ≤ k + 1) := Nat.le_trans hol (Nat.add_le_add_left (by cases d <;> decide) _)
      clear hke
      cases d
      · have HE : Hid (o ++ [a] = placeL l a) := by
          have h := hoe.out
          rw [HDN.out] at h
          exact h
        go_wp2_with (first
          | (at_builtin; refine wpList_append_rows encA_len (by decide) encA_one rfl _ _ 44 rfl (w.heap.size + 1) 63 i0 _ 32 Tryd.underlying44 hi0 hz0 hz1 hz2 rfl _ (o).length ((o).flatMap encA) rfl (hown.out.alloc _) _ [a] rfl (one_arc _ a) (by have := hol.out; simp; unfold maxLen; omega) (by have := hol.out; simp; omega) (by have := HZ.out; simp; omega) ?_; intro v2 w2 ho2 hg2; obtain ⟨HO2, HB2, HZ2⟩ := snoc_facts (hown).out (HZ).out ho2 hg2; clear ho2 hg2))
        go_ret
        exact ⟨_, rfl, by rw [← HE.out]; exact own_mono' HO2.out (Nat.le_succ _), hb.out.trans (HB2.out.mono (Nat.le_succ _))⟩
      · have HE : Hid (o = placeL l a) := by
          have h := hoe.out
          rw [if_pos rfl, HDN.out, List.append_nil] at h
          exact h
        go_wp2
        go_ret
        exact ⟨_, rfl, by rw [← HE.out]; exact own_mono' hown.out (Nat.le_succ _), hb.out⟩
set_option maxRecDepth 100000 in
theorem refInOrder_any (v : Value) (l : List Ar) (w : World) (h : Arcs w v l) (hl : l.length * 32 ≤ 140737488351232) :
    Calls Tryd.prog 45 #[v] w fun e w' => ∃ v', e = .returned v' ∧ w'.ownsRow w.heap.size 63 4 v' (ordL l).length ((ordL l).flatMap encA) ∧ Below w.heap.size w w' := by
  obtain ⟨sa, cap, rfl, hc⟩ := h.get
  have HC : Hid (∀ j, j < l.length → ∃ b off, sa = some ⟨b, off, none⟩ ∧ b < w.heap.size ∧ w.cell? ⟨b, off + j * 4, none⟩ = some (.int .i64 (el l j).1) ∧ w.cell? ⟨b, off + j * 4 + 1, none⟩ = some (.int .i64 (el l j).2.1) ∧ w.cell? ⟨b, off + j * 4 + 2, none⟩ = some (.int .i64 (el l j).2.2.1) ∧ w.cell? ⟨b, off + j * 4 + 3, none⟩ = some (.int .i64 (el l j).2.2.2)) := hc
  clear h hc
  generalize hn : l.length = n at *
  have HN : Hid (l.length = n) := hn
  clear hn
  go_enter Tryd.func45, Tryd.ntmps45
  go_wp2
  go_loopw [3, 4] (fun s3 i wr => ∃ (k : Nat) (vo : Value), k ≤ n ∧ vo = s3 ∧ i = .int .i64 k ∧ Hid (wr.ownsRow w.heap.size 63 4 vo (ordL (l.take k)).length ((ordL (l.take k)).flatMap encA)) ∧ Hid (Below w.heap.size w wr)) (fun _ i _ => n - (intOf i).toNat)
  case atStart => exact ⟨0, _, Nat.zero_le _, rfl, rfl, World.ownsRow_nil _ _ _ _, by (show Below _ _ _); go_grown⟩
  case round =>
    obtain ⟨k, vo, hk, rfl, rfl, hown, hb⟩ := hrel
    by_cases hlt : k < n
    · obtain ⟨b, off, rfl, hbl, g0, g1, g2, g3⟩ := HC.out k hlt
      have g0 := (hb.out.cell (p := ⟨b, off + k * 4, none⟩) hbl).trans g0
      have g1 := (hb.out.cell (p := ⟨b, off + k * 4 + 1, none⟩) hbl).trans g1
      have g2 := (hb.out.cell (p := ⟨b, off + k * 4 + 2, none⟩) hbl).trans g2
      have g3 := (hb.out.cell (p := ⟨b, off + k * 4 + 3, none⟩) hbl).trans g3
      have HT : Hid (ordL (l.take (k + 1)) = placeL (ordL (l.take k)) (el l k)) := ordL_take (by rw [HN.out]; exact hlt)
      have HL : Hid ((ordL (l.take k)).length * 32 ≤ 140737488351232) := by show _ ≤ _; rw [ordL_length, List.length_take]; omega
      have HA : Hid (Arcs wr vo (ordL (l.take k))) := Row.ofOwn encA_len hown.out rfl
      have hk0' : (0 : Int) ≤ (k : Int) := Int.natCast_nonneg _
      have hk1' : (k : Int) < (n : Int) := by omega
      generalize el l k = p at *
      go_wp2_with (first
        | (go_at_call 60; (with_reducible refine (placed_any _ _ p _ HA.out HL.out).mono ?_); rintro e w2 ⟨v2, rfl, ho2, hb2⟩; have HO2 : Hid (w2.ownsRow w.heap.size 63 4 v2 (ordL (l.take (k + 1))).length ((ordL (l.take (k + 1))).flatMap encA)) := (by rw [HT.out]; exact own_mono' ho2 hb.out.size); have HB2 : Hid (Below w.heap.size w w2) := hb.out.trans (hb2.mono hb.out.size); clear ho2 hb2))
      go_roundw
      case rel => exact ⟨k + 1, _, by omega, rfl, by go_num, HO2, HB2⟩
      case measure => simp [intOf]; omega
    · have hke : k = n := by omega
      have hnl : ¬ (k : Int) < (n : Int) := by omega
      have HO : Hid (wr.ownsRow w.heap.size 63 4 vo (ordL l).length ((ordL l).flatMap encA)) := by
        have h := hown.out
        rw [hke, ← HN.out, List.take_length] at h
        exact h
      clear hke hown
      go_wp2
      go_ret
      exact ⟨_, rfl, HO.out, hb.out⟩
end Go.Proofs.YtfekmlblldhieaaDoor.Wt
namespace Go.Proofs.YtfekmlblldhieaaDoor.Wt
open Go.ChangeShapes Go.WideShapes Go.ChangeAt Go.RowKit
open Go.Proofs.YtfekmlblldhieaaDoor.Pl
set_option linter.unusedVariables false
set_option linter.unusedSimpArgs false
theorem ret_boolC {a b : Bool} (h : a = b) : Ending.returned (.bool a) = .returned (.bool b) := by rw [h]
theorem ret_intC {a b : Int} (h : a = b) : Ending.returned (.int .i64 a) = .returned (.int .i64 b) := by rw [h]
set_option maxRecDepth 100000 in
theorem sameCosts_any (v1 v2 : Value) (a b : List Int) (w : World) (h1 : Nums w v1 a) (h2 : Nums w v2 b) (hl : a.length = b.length) (h3 : a.length ≤ 1000) (r : Bool) (hr : decide (a = b) = r) :
    Calls Tryd.prog 22 #[v1, v2] w fun e w' => e = .returned (.bool r) ∧ Below w.heap.size w w' := by
  obtain ⟨xa, ca, rfl, hca⟩ := h1.get
  obtain ⟨xb, cb, rfl, hcb⟩ := h2.get
  have HCA := hidP hca
  have HCB := hidP hcb
  have HY : Hid ((∀ j, j < a.length → el a j = el b j) → true = r) := fun h => by rw [← hr]; exact (decide_eq_true (el_ext hl h)).symm
  have HN : Hid (∀ j, j < a.length → el a j ≠ el b j → false = r) := fun j hj h => by rw [← hr]; exact (decide_eq_false (fun e => h (by rw [e]))).symm
  rw [← hl] at HCB ⊢
  clear h1 h2 hca hcb hr hl
  generalize a.length = n at *
  go_enter Tryd.func22, Tryd.ntmps22
  go_wp2
  go_loopw [5] (fun i wr => ∃ k q : Nat, k ≤ n ∧ i = .int .i64 k ∧ wr = w.drewN q ∧ Hid (∀ j, j < k → el a j = el b j)) (fun i _ => n - (intOf i).toNat)
  case atStart => exact ⟨0, 0, Nat.zero_le _, rfl, (World.drewN_zero w).symm, fun j hj => absurd hj (Nat.not_lt_zero _)⟩
  case round =>
    obtain ⟨k, q, hk, rfl, rfl, hsame⟩ := hrel
    by_cases hlt : k < n
    · obtain ⟨b1, off1, rfl, _, g0⟩ := HCA.out k hlt
      obtain ⟨b2, off2, rfl, _, r0⟩ := HCB.out k hlt
      have hk0 : (0 : Int) ≤ (k : Int) := by omega
      have hk1 : (k : Int) < (n : Int) := by omega
      by_cases e : el a k = el b k
      · have HS : Hid (∀ j, j < k + 1 → el a j = el b j) := fun j hj => by
          by_cases g : j = k
          · rw [g]; exact e
          · exact hsame.out j (by omega)
        rw [← e] at r0
        have e' : (el a k != el a k) = false := by simp
        generalize el a k = x at *
        go_wp2
        go_quiet (fail)
        go_wp2
        go_roundw
        case rel => exact ⟨k + 1, q + nq, by omega, by go_num, by first | rfl | rw [World.drewN_drewN], HS⟩
        case measure => simp [intOf]; omega
      · have HR := hidP (HN.out k hlt e)
        have e' : (el a k != el b k) = true := by simpa using e
        generalize el a k = x at *
        generalize el b k = y at *
        go_wp2
        go_quiet (fail)
        go_wp2
        go_ret
        exact ⟨ret_boolC HR.out, by first | exact below_drewN (Below.refl _ _) _ | (rw [World.drewN_drewN]; exact below_drewN (Below.refl _ _) _)⟩
    · have hnl : ¬ (k : Int) < (n : Int) := by omega
      obtain rfl : k = n := by omega
      have HR := hidP (HY.out hsame.out)
      go_wp2
      go_ret
      exact ⟨ret_boolC HR.out, below_drewN (Below.refl _ _) q⟩
set_option maxRecDepth 100000 in
theorem leastOf_any (v : Value) (cs : List Int) (w : World) (h : Nums w v cs) (hb : ∀ c ∈ cs, c ≤ noneI) (h3 : cs.length ≤ 1000) (r : Int) (hr : mnL cs = r) :
    Calls Tryd.prog 21 #[v] w fun e w' => e = .returned (.int .i64 r) ∧ Below w.heap.size w w' := by
  obtain ⟨xa, ca, rfl, hca⟩ := h.get
  have HCA := hidP hca
  have HST : Hid (∀ k, k < cs.length → mnL (cs.take (k + 1)) = if el cs k < mnL (cs.take k) then el cs k else mnL (cs.take k)) := fun k hk => by
    rw [take_el hk, mnL_snoc _ _ (hb _ (el_mem hk))]
  have HRE : Hid (mnL (cs.take cs.length) = r) := by show _ = _; rw [List.take_length]; exact hr
  clear h hca hr hb
  generalize cs.length = n at *
  go_enter Tryd.func21, Tryd.ntmps21
  go_wp2
  go_loopw [3, 4] (fun s4 i wr => ∃ (k q : Nat) (y : Int), k ≤ n ∧ s4 = .int .i64 y ∧ i = .int .i64 k ∧ wr = w.drewN q ∧ Hid (mnL (cs.take k) = y)) (fun _ i _ => n - (intOf i).toNat)
  case atStart => exact ⟨0, 0, noneI, Nat.zero_le _, rfl, rfl, (World.drewN_zero w).symm, by show _ = _; simp [mnL]⟩
  case round =>
    obtain ⟨k, q, y, hk, rfl, rfl, rfl, hy⟩ := hrel
    by_cases hlt : k < n
    · obtain ⟨b1, off1, rfl, _, g0⟩ := HCA.out k hlt
      have hk0 : (0 : Int) ≤ (k : Int) := by omega
      have hk1 : (k : Int) < (n : Int) := by omega
      have HS := hidP (HST.out k hlt)
      rw [hy.out] at HS
      generalize el cs k = x at *
      by_cases e : x < y
      · rw [if_pos e] at HS
        have e' : decide (x < y) = true := decide_eq_true e
        go_wp2
        try go_quiet (fail)
        try go_wp2
        go_roundw
        case rel => exact ⟨k + 1, _, x, by omega, rfl, by go_num, by first | rfl | rw [World.drewN_drewN], HS⟩
        case measure => simp [intOf]; omega
      · rw [if_neg e] at HS
        have e' : decide (x < y) = false := decide_eq_false e
        go_wp2
        try go_quiet (fail)
        try go_wp2
        go_roundw
        case rel => exact ⟨k + 1, _, y, by omega, rfl, by go_num, by first | rfl | rw [World.drewN_drewN], HS⟩
        case measure => simp [intOf]; omega
    · have hnl : ¬ (k : Int) < (n : Int) := by omega
      obtain rfl : k = n := by omega
      have HR : Hid (y = r) := hy.out.symm.trans HRE.out
      go_wp2
      go_ret
      exact ⟨ret_intC HR.out, below_drewN (Below.refl _ _) q⟩
end Go.Proofs.YtfekmlblldhieaaDoor.Wt
namespace Go.Proofs.YtfekmlblldhieaaDoor.Wt
open Go.ChangeShapes Go.WideShapes Go.ChangeAt Go.RowKit
open Go.Proofs.YtfekmlblldhieaaDoor.Pl
set_option linter.unusedVariables false
set_option linter.unusedSimpArgs false
/-- The machine's box, the table. -/
structure BehW (w : World) (cm : Array Value) (wr : World) (cs : List Int) : Prop where
  m : Blk wr w.heap.size cm 24
  t : Blk wr (w.heap.size + 1) (cs.map (Value.int .i64)).toArray 3
  bel : Below w.heap.size w wr
theorem BehW.set {w wr : World} {cm : Array Value} {cs : List Int} (h : BehW w cm wr cs) (k : Nat) (v : Int) : BehW w cm (wr.setCell ⟨w.heap.size + 1, k, none⟩ (.int .i64 v)) (cs.set k v) :=
  ⟨h.m.setO _ _ (by show w.heap.size ≠ w.heap.size + 1; omega), by have := h.t.set k (.int .i64 v); rwa [set_num] at this, h.bel.setCell (p := ⟨w.heap.size + 1, k, none⟩) (by show w.heap.size ≤ w.heap.size + 1; omega) _⟩
theorem BehW.drew {w wr : World} {cm : Array Value} {cs : List Int} (h : BehW w cm wr cs) : BehW w cm wr.drew cs := ⟨h.m.drew, h.t.drew, h.bel.drew⟩
theorem BehW.drewN {w wr : World} {cm : Array Value} {cs : List Int} (h : BehW w cm wr cs) (n : Nat) : BehW w cm (wr.drewN n) cs := ⟨h.m.drewN n, h.t.drewN n, ⟨h.bel.os, h.bel.tape, h.bel.output, h.bel.size, h.bel.block⟩⟩
theorem BehW.made (w : World) (cm : Array Value) (N : Nat) : BehW w cm ((w.alloc (.cells cm 24)).alloc (.cells ((List.replicate N (0 : Int)).map (Value.int .i64)).toArray 3)) (List.replicate N 0) := by
  have k1 := Blk.made (w.alloc (.cells cm 24)) ((List.replicate N (0 : Int)).map (Value.int .i64)).toArray 3
  rw [World.size_alloc] at k1
  exact ⟨(Blk.made w cm _).alloc _, k1, ((Below.refl _ _).alloc (Nat.le_refl _) _).alloc (by simp) _⟩
set_option maxRecDepth 100000 in
set_option maxHeartbeats 3200000 in
theorem behind_any (v vs : Value) (m : Mc) (S : List Int) (ci co : Int) (w : World) (h : Mach w v m) (hf : faultM m = 0) (hN : Nums w vs S) (hS : SetN m.2.length 1000000000000 S) :
    Calls Tryd.prog 20 #[v, vs, .int .i64 ci, .int .i64 co] w fun e w' => e = .returned (.slice (some ⟨w.heap.size + 1, 0, none⟩) m.2.length m.2.length) ∧ Blk w' (w.heap.size + 1) ((behL m.2 S ci co).map (Value.int .i64)).toArray 3 ∧ Below w.heap.size w w' := by
  obtain ⟨z, l⟩ := m
  simp only at hS
  have h60 := (right_size hf).1
  have HARC : Hid (∀ q, q < l.length → (el l q).2.length ≤ 400 ∧ ∀ a ∈ (el l q).2, 0 ≤ a.2.2.1 ∧ a.2.2.1 ≤ 1000000000 ∧ ∃ t : Nat, a.2.2.2 = (t : Int) ∧ t < l.length) := fun q hq => ⟨(right_states hf q hq).2.1, fun a ha => arc_low (m := (z, l)) hf hq ha⟩
  have HRS := hidP hS.rng
  have HSL := hidP hS.len
  obtain ⟨vs', rfl, hSt⟩ := h
  obtain ⟨a, cap, rfl, hc⟩ := hSt.get
  obtain ⟨xs, cs9, rfl, hcs⟩ := hN.get
  have HC := hidP hc
  have HCS := hidP hcs
  have HST := hidP (NxtT.start l S ci co)
  have HDN : Hid (∀ cs, NxtT l S ci co l.length 0 cs → cs = behL l S ci co) := fun cs h => h.done
  rw [hS.len] at HCS ⊢
  have HPUT : Hid (∀ q k cs t, NxtT l S ci co q k cs → k < (el l q).2.length → (el (el l q).2 k).1 = ci → (el (el l q).2 k).2.1 = co → (el (el l q).2 k).2.2.2 = ((t : Nat) : Int) → t < l.length → el S q + (el (el l q).2 k).2.2.1 < el cs t → NxtT l S ci co q (k + 1) (cs.set t (el S q + (el (el l q).2 k).2.2.1))) := fun q k cs t h1 h2 h3 h4 h5 h6 h7 => h1.put h2 h3 h4 h5 h6 h7
  have HSK : Hid (∀ q k cs t, NxtT l S ci co q k cs → k < (el l q).2.length → (el (el l q).2 k).2.2.2 = ((t : Nat) : Int) → t < l.length → el S q + (el (el l q).2 k).2.2.1 ≤ noneI → ((el (el l q).2 k).1 = ci → (el (el l q).2 k).2.1 = co → ¬ el S q + (el (el l q).2 k).2.2.1 < el cs t) → NxtT l S ci co q (k + 1) cs) := fun q k cs t h1 h2 h3 h4 h5 h6 => h1.skip h2 h3 h4 h5 h6
  have HNX : Hid (∀ q k cs, NxtT l S ci co q k cs → ((el S q = noneI ∧ k = 0) ∨ (el S q ≠ noneI ∧ k = (el l q).2.length)) → NxtT l S ci co (q + 1) 0 cs) := fun q k cs h1 h2 => h1.next h2
  have HLE : Hid (∀ q k cs, NxtT l S ci co q k cs → cs.length = l.length ∧ ∀ p, p < l.length → el cs p ≤ noneI) := fun q k cs h1 => ⟨h1.1, fun p hp => h1.rng hp⟩
  clear hf hSt hc hN hcs hS
  simp only
  generalize hn : l.length = n at *
  have HN := hidP hn
  clear hn
  generalize behL l S ci co = BH at *
  have hmk := run_nums n (by omega)
  go_enter Tryd.func20, Tryd.ntmps20
  go_wp2
  clear hmk
  go_loopw [10] (fun i wr => ∃ (k : Nat) (cs : List Int), k ≤ n ∧ i = .int .i64 k ∧ Hid (cs.length = n ∧ ∀ j, j < k → el cs j = noneI) ∧ Hid (BehW w #[.int .i64 z, .slice a n cap] wr cs)) (fun i _ => n - (intOf i).toNat)
  case atStart => exact ⟨0, List.replicate n 0, Nat.zero_le _, rfl, ⟨by simp, fun j hj => absurd hj (by omega)⟩, by have h9 := BehW.made w #[.int .i64 z, .slice a n cap] n; simp only [List.map_replicate, List.toArray_replicate] at h9 ⊢; exact h9⟩
  case round =>
    obtain ⟨k, cs, hk, rfl, hcs, hT⟩ := hrel
    by_cases hkN : k < n
    · have hk1 : (k : Int) < (n : Int) := by omega
      have hk0 : (0 : Int) ≤ (k : Int) := by omega
      have c0 := num_cell hT.out.t (j := k) (by rw [hcs.out.1]; exact hkN)
      have f0 := hT.out.t.fz k
      go_wp2
      go_roundw
      case rel => exact ⟨k + 1, cs.set k noneI, by omega, by go_num, ⟨by rw [List.length_set]; exact hcs.out.1, fun j hj => by rw [el_setN (by rw [hcs.out.1]; exact hkN)]; split; rfl; exact hcs.out.2 j (by omega)⟩, hT.out.set k _⟩
      case measure => simp [intOf]; omega
    · have hk1 : ¬ (k : Int) < (n : Int) := by omega
      obtain rfl : k = n := by omega
      have hrep : cs = List.replicate k noneI := el_ext (by rw [hcs.out.1]; simp) fun j hj => by
        rw [hcs.out.1] at hj
        rw [hcs.out.2 j hj, el_get (by simpa using hj)]
        simp
      subst hrep
      clear hcs hkN
      go_wp2
      go_loopw [11] (fun i wr => ∃ (q : Nat) (cs : List Int), q ≤ k ∧ i = .int .i64 q ∧ Hid (NxtT l S ci co q 0 cs) ∧ Hid (BehW w #[.int .i64 z, .slice a k cap] wr cs)) (fun i _ => k - (intOf i).toNat)
      case atStart => exact ⟨0, _, Nat.zero_le _, rfl, HST, hT⟩
      case round =>
        clear hT
        obtain ⟨q, cs, hq, rfl, hX, hT⟩ := hrel
        by_cases hqn : q < k
        · have q1 : (q : Int) < (k : Int) := by omega
          have q0 : (0 : Int) ≤ (q : Int) := by omega
          obtain ⟨b, off, va, rfl, hbl, g0, g1, gA⟩ := HC.out q hqn
          obtain ⟨bs, os, hxs, hbs, s0⟩ := HCS.out q hqn
          subst hxs
          obtain ⟨a2, cap2, rfl, hc2⟩ := gA.get
          have HC2 := hidP hc2
          obtain ⟨hl4, hto⟩ := HARC.out q hqn
          have HTO := hidP hto
          have hsr := HRS.out q hqn
          have d1 := hT.out.m.cell 1 (v := .slice (some ⟨b, off, none⟩) k cap) rfl
          have g1' := (hT.out.bel.cell (p := ⟨b, off + q * 2 + 1, none⟩) hbl).trans g1
          have HPq := hidP (HPUT.out q)
          have HKq := hidP (HSK.out q)
          have HNq := hidP (HNX.out q)
          obtain ⟨sq, hsq⟩ : ∃ sq, el S q = sq := ⟨_, rfl⟩
          obtain ⟨ar, har⟩ : ∃ ar, (el l q).2 = ar := ⟨_, rfl⟩
          rw [hsq] at s0 hsr HPq HKq HNq
          rw [har] at g1' HC2 hl4 HTO HPq HKq HNq
          clear hto hc2 gA g0 g1 hsq har
          generalize hL : ar.length = L at *
          have HL := hidP hL
          clear hL
          go_wp2
          go_loopw [13] (fun i wr => ∃ (k2 : Nat) (cs : List Int), k2 ≤ L ∧ i = .int .i64 k2 ∧ Hid (NxtT l S ci co q k2 cs) ∧ Hid (BehW w #[.int .i64 z, .slice (some ⟨b, off, none⟩) k cap] wr cs) ∧ (sq = noneI → k2 = 0)) (fun i _ => L - (intOf i).toNat)
          case atStart => exact ⟨0, cs, Nat.zero_le _, rfl, hX, hT, fun _ => rfl⟩
          case round =>
            clear hX hT d1 g1'
            obtain ⟨k2, cs, hk2, rfl, hX, hT, hz0⟩ := hrel
            obtain ⟨w4, hw4⟩ : ∃ w4, w4 = wr := ⟨_, rfl⟩
            subst hw4
            have s0' := (hT.out.bel.cell (p := ⟨bs, os + q, none⟩) hbs).trans s0
            by_cases hkl : k2 < L
            · have k1 : (k2 : Int) < (L : Int) := by omega
              have k0 : (0 : Int) ≤ (k2 : Int) := by omega
              by_cases hsn : sq = noneI
              · have HN2 := hidP (HNq.out k2 cs hX.out (.inl ⟨hsn, hz0 hsn⟩))
                have e1 : (sq != 1152921504606846976) = false := by rw [hsn]; rfl
                go_wp2
                go_roundw
                case rel => exact ⟨q + 1, cs, by omega, by go_num, HN2, hT⟩
                case measure => simp [intOf]; omega
              · have e1 : (sq != 1152921504606846976) = true := by simpa [noneI] using hsn
                have hsb : 0 ≤ sq ∧ sq ≤ 1000000000000 := by rcases hsr with g | g; exact absurd g hsn; exact g
                obtain ⟨b3, off3, rfl, hb3, x0, x1, x2, x3⟩ := HC2.out k2 hkl
                have HY2 := hidP x2
                have HY3 := hidP x3
                have x0 := (hT.out.bel.cell (p := ⟨b3, off3 + k2 * 4, none⟩) hb3).trans x0
                have x1 := (hT.out.bel.cell (p := ⟨b3, off3 + k2 * 4 + 1, none⟩) hb3).trans x1
                have x2 := (hT.out.bel.cell (p := ⟨b3, off3 + k2 * 4 + 2, none⟩) hb3).trans x2
                have x3 := (hT.out.bel.cell (p := ⟨b3, off3 + k2 * 4 + 3, none⟩) hb3).trans x3
                obtain ⟨w0, w1, t, ht, htl⟩ := HTO.out (el ar k2) (el_mem (by rw [HL.out]; exact hkl))
                have HPk := hidP (fun h1 h2 => HPq.out k2 cs t hX.out hkl h1 h2 ht htl)
                have HKk := hidP (fun h1 => HKq.out k2 cs t hX.out hkl ht htl h1)
                have hlen := (HLE.out q k2 cs hX.out).1
                have hyr := (HLE.out q k2 cs hX.out).2 t htl
                have t0 := num_cell hT.out.t (j := t) (by rw [hlen]; exact htl)
                rw [ht] at x3 HY3
                obtain ⟨p, hp⟩ : ∃ p : Ar, el ar k2 = p := ⟨_, rfl⟩
                rw [hp] at x0 x1 x2 w0 w1 HPk HKk HY2
                clear hp ht
                obtain ⟨p0, p1, p2, p3⟩ := p
                simp only at x0 x1 x2 w0 w1 HPk HKk HY2
                obtain ⟨y, hy⟩ : ∃ y, el cs t = y := ⟨_, rfl⟩
                rw [hy] at t0 hyr HPk HKk
                clear hy
                have t1 : (0 : Int) ≤ (t : Int) := by omega
                have t2 : (t : Int) < (k : Int) := by omega
                have hwr : IntKind.i64.wrap (sq + p2) = sq + p2 := wrapI (by omega) (by omega)
                have hbn : sq + p2 ≤ noneI := by unfold noneI; omega
                by_cases e2 : p0 = ci
                · have e2' : (p0 == ci) = true := by simpa using e2
                  by_cases e3 : p1 = co
                  · have e3' : (p1 == co) = true := by simpa using e3
                    by_cases e4 : sq + p2 < y
                    · have e4' : decide (sq + p2 < y) = true := decide_eq_true e4
                      have HX2 := hidP (HPk.out e2 e3 e4)
                      go_wp2
                      go_quiet (fail)
                      have HT5 := hidP (hT.out.drewN nq)
                      clear x0 x1 x2 x3 t0 s0' hT
                      generalize w4.drewN nq = w5 at *
                      have x2 := (HT5.out.bel.cell (p := ⟨b3, off3 + k2 * 4 + 2, none⟩) hb3).trans HY2.out
                      have x3 := (HT5.out.bel.cell (p := ⟨b3, off3 + k2 * 4 + 3, none⟩) hb3).trans HY3.out
                      have s1 := (HT5.out.bel.cell (p := ⟨bs, os + q, none⟩) hbs).trans s0
                      have t3 := num_cell HT5.out.t (j := t) (by rw [hlen]; exact htl)
                      have f3 := HT5.out.t.fz t
                      go_wp2
                      go_region
                      go_wp2
                      go_roundw
                      case rel => exact ⟨k2 + 1, cs.set t (sq + p2), by omega, by go_num, HX2, (HT5.out.set t _).drew, fun h => absurd h hsn⟩
                      case measure => simp [intOf]; omega
                    · have e4' : decide (sq + p2 < y) = false := decide_eq_false e4
                      have HX2 := hidP (HKk.out hbn (fun _ _ => by omega))
                      go_wp2
                      go_quiet (fail)
                      have HT5 := hidP (hT.out.drewN nq)
                      go_wp2
                      go_roundw
                      case rel => exact ⟨k2 + 1, cs, by omega, by go_num, HX2, HT5, fun h => absurd h hsn⟩
                      case measure => simp [intOf]; omega
                  · have e3' : (p1 == co) = false := by simpa using e3
                    have HX2 := hidP (HKk.out hbn (fun _ h => absurd h e3))
                    go_wp2
                    go_quiet (fail)
                    have HT5 := hidP (hT.out.drewN nq)
                    go_wp2
                    go_roundw
                    case rel => exact ⟨k2 + 1, cs, by omega, by go_num, HX2, HT5, fun h => absurd h hsn⟩
                    case measure => simp [intOf]; omega
                · have e2' : (p0 == ci) = false := by simpa using e2
                  have HX2 := hidP (HKk.out hbn (fun h => absurd h e2))
                  go_wp2
                  go_quiet (fail)
                  have HT5 := hidP (hT.out.drewN nq)
                  go_wp2
                  go_roundw
                  case rel => exact ⟨k2 + 1, cs, by omega, by go_num, HX2, HT5, fun h => absurd h hsn⟩
                  case measure => simp [intOf]; omega
            · have k1 : ¬ (k2 : Int) < (L : Int) := by omega
              obtain rfl : k2 = L := by omega
              have HN2 : Hid (NxtT l S ci co (q + 1) 0 cs) := HNq.out k2 cs hX.out (by
                by_cases e : sq = noneI
                · exact .inl ⟨e, hz0 e⟩
                · exact .inr ⟨e, rfl⟩)
              go_wp2
              go_roundw
              case rel => exact ⟨q + 1, cs, by omega, by go_num, HN2, hT⟩
              case measure => simp [intOf]; omega
        · have q1 : ¬ (q : Int) < (k : Int) := by omega
          obtain rfl : q = k := by omega
          have HE := hidP (HDN.out cs hX.out)
          go_wp2
          go_ret
          exact ⟨rfl, by rw [← HE.out]; exact hT.out.t, hT.out.bel⟩
end Go.Proofs.YtfekmlblldhieaaDoor.Wt
namespace Go.Proofs.YtfekmlblldhieaaDoor.Wt
open Go.ChangeShapes Go.WideShapes Go.ChangeAt Go.RowKit
open Go.Proofs.YtfekmlblldhieaaDoor.Pl
set_option linter.unusedVariables false
set_option linter.unusedSimpArgs false
set_option maxRecDepth 100000 in
set_option maxHeartbeats 3200000 in
theorem pairs_any (v vs : Value) (m : Mc) (S : List Int) (w : World) (h : Mach w v m) (hf : faultM m = 0) (hN : Nums w vs S) (hS : S.length = m.2.length) :
    Calls Tryd.prog 19 #[v, vs] w fun e w' => ∃ v' P, e = .returned v' ∧ P.map prA = prsL m.2 S ∧ P.length ≤ 400 ∧ OwnArcs w' w.heap.size v' P ∧ Below w.heap.size w w' := by
  obtain ⟨i0, hi0, hz0, hz1, hz2⟩ := info_parts infoArc
  obtain ⟨z, l⟩ := m
  simp only at hS
  have h60 := (right_size hf).1
  have h400 := (right_size hf).2
  have HLN : Hid (∀ q, q ≤ l.length → (allU l S q).length ≤ 400) := fun q hq => by
    have h1 := allU_len l S q hq
    have h2 := arcN_takeR l q
    omega
  have HL4 : Hid (∀ q, q < l.length → (el l q).2.length ≤ 400) := fun q hq => (right_states hf q hq).2.1
  have HST := hidP (fun q => allU_succ l S q)
  have HPR := hidP (frsA_prs l S)
  have HLA : Hid ((allA l S).length ≤ 400) := by have := HLN.out l.length (Nat.le_refl _); exact this
  have HAL : Hid (allU l S l.length = allA l S) := allU_all l S
  obtain ⟨vs', rfl, hSt⟩ := h
  obtain ⟨a, cap, rfl, hc⟩ := hSt.get
  obtain ⟨xs, cs9, rfl, hcs⟩ := hN.get
  have HC := hidP hc
  have HCS := hidP hcs
  rw [hS] at HCS ⊢
  clear hf hSt hc hN hcs hS
  simp only
  generalize hn : l.length = n at *
  have HN := hidP hn
  clear hn
  generalize prsL l S = PRS at *
  generalize allA l S = AL at *
  go_enter Tryd.func19, Tryd.ntmps19
  go_wp2
  go_loopw [5, 6] (fun s5 i wr => ∃ (q : Nat) (vo : Value), q ≤ n ∧ vo = s5 ∧ i = .int .i64 q ∧ Hid (OwnArcs wr (w.heap.size + 1) vo (allU l S q)) ∧ Hid (Blk wr w.heap.size #[.int .i64 z, .slice a n cap] 24) ∧ Hid (Below w.heap.size w wr)) (fun _ i _ => n - (intOf i).toNat)
  case atStart => exact ⟨0, _, Nat.zero_le _, rfl, rfl, OwnArcs.nil _ _, Blk.made _ _ _, (Below.refl _ _).alloc (Nat.le_refl _) _⟩
  case round =>
    obtain ⟨q, vo, hq, rfl, rfl, hO, hM, hb⟩ := hrel
    by_cases hqn : q < n
    · have q1 : (q : Int) < (n : Int) := by omega
      have q0 : (0 : Int) ≤ (q : Int) := by omega
      obtain ⟨b, off, va, rfl, hbl, g0, g1, gA⟩ := HC.out q hqn
      obtain ⟨bs, os, hxs, hbs, s0⟩ := HCS.out q hqn
      subst hxs
      have s0 := (hb.out.cell (p := ⟨bs, os + q, none⟩) hbs).trans s0
      have g1 := (hb.out.cell (p := ⟨b, off + q * 2 + 1, none⟩) hbl).trans g1
      have d1 := hM.out.cell 1 (v := .slice (some ⟨b, off, none⟩) n cap) rfl
      have HE := hidP (HST.out q)
      have hl1 := HLN.out q hq
      have hl2 := HL4.out q hqn
      have HGA := hidP (gA.later hb.out (Nat.le_refl _))
      obtain ⟨a2, cap2, hva⟩ := gA.sl
      subst hva
      generalize allU l S q = cu at *
      generalize (el l q).2 = ar at *
      obtain ⟨sq, hsq⟩ : ∃ sq, el S q = sq := ⟨_, rfl⟩
      rw [hsq] at s0 HE
      clear gA g0 hsq
      obtain ⟨w4, hw4⟩ : ∃ w4, w4 = wr := ⟨_, rfl⟩
      subst hw4
      by_cases hsn : sq = noneI
      · have e1 : (sq != 1152921504606846976) = false := by rw [hsn]; rfl
        rw [if_pos hsn, List.append_nil] at HE
        go_wp2
        go_roundw
        case rel => exact ⟨q + 1, _, by omega, rfl, by go_num, by rw [HE.out]; exact hO, hM, hb⟩
        case measure => simp [intOf]; omega
      · have e1 : (sq != 1152921504606846976) = true := by simpa [noneI] using hsn
        rw [if_neg hsn] at HE
        obtain ⟨ao, co, rfl⟩ := hO.out.sl
        go_wp2_with (first
          | (at_builtin; refine wpList_append_rows encA_len (by decide) encA_one rfl _ _ 44 rfl (w.heap.size + 1) 63 i0 _ 32 Tryd.underlying44 hi0 hz0 hz1 hz2 rfl _ cu.length (cu.flatMap encA) rfl hO.out _ ar rfl HGA.out (by skip; unfold maxLen; omega) (by skip; omega) (by have := hM.out.lt; omega) ?_; intro v2 w2 ho2 hg2))
        have ho6 : OwnArcs w2 (w.heap.size + 1) v2 (cu ++ ar) := by
          unfold OwnArcs
          rw [List.length_append, List.flatMap_append]
          exact ho2
        have hb6 : Below (w.heap.size + 1) w4 w2 := (Below.refl _ _).grown hg2 (by have := hM.out.lt; omega) (fun k hk => (hO.out.lt k hk).1)
        have HM6 := hidP (hM.out.below hb6 (Nat.lt_succ_self _))
        have HB6 := hidP (hb.out.trans (hb6.mono (Nat.le_succ _)))
        go_roundw
        case rel => exact ⟨q + 1, _, by omega, rfl, by go_num, by rw [HE.out]; exact ho6, HM6, HB6⟩
        case measure => simp [intOf]; omega
    · have q1 : ¬ (q : Int) < (n : Int) := by omega
      obtain rfl : q = n := by omega
      rw [HAL.out] at hO
      have HLL : Hid (AL.length * 32 ≤ 140737488351232) := by have := HLA.out; show _ ≤ _; omega
      have HOL : Hid ((ordL AL).length ≤ 400) := by rw [ordL_length]; exact HLA.out
      obtain ⟨ao, co, rfl⟩ := hO.out.sl
      go_wp2_with (first
        | (go_at_call 45; (with_reducible refine (refInOrder_any _ AL _ hO.out.arcs HLL.out).mono ?_); rintro e w5 ⟨v5, rfl, ho5, hb5⟩; have HO5 := hidP ho5; have HB5 := hidP (hb.out.trans (hb5.mono hb.out.size)); have s5 := hM.out.lt; have s6 := hb5.size; obtain ⟨a5, c5, hv5⟩ := own_sl ho5; subst hv5; clear ho5 hb5))
      generalize hOL : ordL AL = O at *
      have hc5 : ∀ j, j < O.length → ∃ b off, a5 = some ⟨b, off, none⟩ ∧ b < w5.heap.size ∧ w5.cell? ⟨b, off + j * 4, none⟩ = some (.int .i64 (el O j).1) ∧ w5.cell? ⟨b, off + j * 4 + 1, none⟩ = some (.int .i64 (el O j).2.1) ∧ w5.cell? ⟨b, off + j * 4 + 2, none⟩ = some (.int .i64 (el O j).2.2.1) ∧ w5.cell? ⟨b, off + j * 4 + 3, none⟩ = some (.int .i64 (el O j).2.2.2) := fun j hj => arcs_at (Row.ofOwn encA_len HO5.out rfl) hj
      have HC5 := hidP hc5
      have HFS : Hid (∀ k, frsA O (k + 1) = frsA O k ++ (if 0 < k ∧ prA (el O k) = prA (el O (k - 1)) then [] else [el O k])) := fun k => rfl
      have HFL := hidP (fun k => frsA_len O k)
      clear hc5 hO hM hb hOL HC HCS HST HLN HL4
      generalize hn1 : O.length = n1 at *
      have HN1 := hidP hn1
      have h41 := HOL.out
      clear hn1
      have HZ0 : Hid (w.heap.size + 1 ≤ w5.heap.size) := by show _ ≤ _; omega
      go_wp2
      go_loopw [7, 8] (fun s7 i wr => ∃ (k : Nat) (vo : Value), k ≤ n1 ∧ vo = s7 ∧ i = .int .i64 k ∧ Hid (OwnArcs wr w5.heap.size vo (frsA O k)) ∧ Hid (Below w5.heap.size w5 wr)) (fun _ i _ => n1 - (intOf i).toNat)
      case atStart => exact ⟨0, _, Nat.zero_le _, rfl, rfl, OwnArcs.nil _ _, Below.refl _ _⟩
      case round =>
        obtain ⟨k, vo, hk, rfl, rfl, hO, hb⟩ := hrel
        by_cases hlt : k < n1
        · obtain ⟨b, off, rfl, hbl, g0, g1, g2, g3⟩ := HC5.out k hlt
          have g0 := (hb.out.cell (p := ⟨b, off + k * 4, none⟩) hbl).trans g0
          have g1 := (hb.out.cell (p := ⟨b, off + k * 4 + 1, none⟩) hbl).trans g1
          have g2 := (hb.out.cell (p := ⟨b, off + k * 4 + 2, none⟩) hbl).trans g2
          have g3 := (hb.out.cell (p := ⟨b, off + k * 4 + 3, none⟩) hbl).trans g3
          have hol : Hid ((frsA O k).length ≤ n1) := by have := HFL.out k; show _ ≤ _; omega
          cases k with
          | zero =>
            have HE : Hid (frsA O 1 = frsA O 0 ++ [el O 0]) := by have := HFS.out 0; show _ = _; simpa using this
            have k2 : (0 : Int) < (n1 : Int) := by omega
            generalize frsA O 0 = o at *
            generalize el O 0 = p at *
            go_wp2
            go_quiet (fail)
            have HO : Hid ((wr.drewN nq).ownsRow w5.heap.size 63 4 vo o.length (o.flatMap encA)) := hO
            have HZ : Hid (w5.heap.size ≤ (wr.drewN nq).heap.size) := hb.out.size
            have HBD : Hid (Below w5.heap.size w5 (wr.drewN nq)) := below_drewN hb.out nq
            clear hO hb
            generalize hwd : wr.drewN nq = wd at HO HZ HBD ⊢
            have P0 : wd.cell? ⟨b, off, none⟩ = some (.int .i64 p.1) := by rw [← hwd]; simpa using g0
            have P1 : wd.cell? ⟨b, off + 1, none⟩ = some (.int .i64 p.2.1) := by rw [← hwd]; simpa using g1
            have P2 : wd.cell? ⟨b, off + 2, none⟩ = some (.int .i64 p.2.2.1) := by rw [← hwd]; simpa using g2
            have P3 : wd.cell? ⟨b, off + 3, none⟩ = some (.int .i64 p.2.2.2) := by rw [← hwd]; simpa using g3
            clear hwd g0 g1 g2 g3
            go_wp2_with (first
              | (at_builtin; refine wpList_append_rows encA_len (by decide) encA_one rfl _ _ 44 rfl w5.heap.size 63 i0 _ 32 Tryd.underlying44 hi0 hz0 hz1 hz2 rfl _ o.length (o.flatMap encA) rfl (HO.out.alloc _) _ [p] rfl (one_arc _ p) (by have := hol.out; simp; unfold maxLen; omega) (by have := hol.out; simp; omega) (by have := HZ.out; simp at this ⊢; omega) ?_; intro v2 w2 ho2 hg2; obtain ⟨HO2, HB2, HZ2⟩ := snoc_facts HO.out HZ.out ho2 hg2; clear ho2 hg2))
            go_roundw
            case rel => exact ⟨0 + 1, _, by omega, rfl, by go_num, by rw [HE.out]; exact HO2, HBD.out.trans HB2.out⟩
            case measure => simp [intOf]; omega
          | succ d =>
            obtain ⟨b2, off2, he, _, q0, q1, q2, q3⟩ := HC5.out d (by omega)
            injection he with he
            injection he with he1 he2 _
            subst he1 he2
            have q0 := (hb.out.cell (p := ⟨b, off + d * 4, none⟩) hbl).trans q0
            have q1 := (hb.out.cell (p := ⟨b, off + d * 4 + 1, none⟩) hbl).trans q1
            clear q2 q3
            have HT := HFS.out (d + 1)
            rw [Nat.add_sub_cancel] at HT
            have k0 : ((d : Int) + 1 == 0) = false := by simp; omega
            have k1 : (0 : Int) ≤ (d : Int) + 1 := by omega
            have k2 : (d : Int) + 1 < (n1 : Int) := by omega
            have k3 : (0 : Int) ≤ (d : Int) := by omega
            have k4 : (d : Int) < (n1 : Int) := by omega
            have k5 : IntKind.i64.wrap (d : Int) = (d : Int) := wrapI (by omega) (by omega)
            have k6 : ¬ (d : Int) + 1 = 0 := by omega
            generalize frsA O (d + 1) = o at *
            generalize el O (d + 1) = p at *
            generalize el O d = q at *
            by_cases e0 : p.1 = q.1
            · by_cases e1 : p.2.1 = q.2.1
              · have HE : Hid (frsA O (d + 1 + 1) = o) := by show _ = _; rw [HT, if_pos ⟨by omega, by simp [prA, e0, e1]⟩, List.append_nil]
                rw [← e0] at q0
                rw [← e1] at q1
                clear HT e0 e1
                go_wp2
                go_quiet (fail)
                go_wp2
                go_roundw
                case rel => exact ⟨(d + 1) + 1, _, by omega, rfl, by go_num, by rw [HE.out]; exact hO, below_drewN hb.out _⟩
                case measure => simp [intOf]; omega
              · have HE : Hid (frsA O (d + 1 + 1) = o ++ [p]) := by show _ = _; rw [HT, if_neg (fun g => e1 (Prod.mk.inj g.2).2)]
                rw [← e0] at q0
                have n1' : (p.2.1 != q.2.1) = true := by simpa using e1
                clear HT e0
                go_wp2
                go_quiet (fail)
                have HO : Hid ((wr.drewN nq).ownsRow w5.heap.size 63 4 vo o.length (o.flatMap encA)) := hO
                have HZ : Hid (w5.heap.size ≤ (wr.drewN nq).heap.size) := hb.out.size
                have HBD : Hid (Below w5.heap.size w5 (wr.drewN nq)) := below_drewN hb.out nq
                clear hO hb
                generalize hwd : wr.drewN nq = wd at HO HZ HBD ⊢
                have P0 : wd.cell? ⟨b, off + (d + 1) * 4, none⟩ = some (.int .i64 p.1) := by rw [← hwd]; simpa using g0
                have P1 : wd.cell? ⟨b, off + (d + 1) * 4 + 1, none⟩ = some (.int .i64 p.2.1) := by rw [← hwd]; simpa using g1
                have P2 : wd.cell? ⟨b, off + (d + 1) * 4 + 2, none⟩ = some (.int .i64 p.2.2.1) := by rw [← hwd]; simpa using g2
                have P3 : wd.cell? ⟨b, off + (d + 1) * 4 + 3, none⟩ = some (.int .i64 p.2.2.2) := by rw [← hwd]; simpa using g3
                clear hwd g0 g1 g2 g3
                go_wp2_with (first
                  | (at_builtin; refine wpList_append_rows encA_len (by decide) encA_one rfl _ _ 44 rfl w5.heap.size 63 i0 _ 32 Tryd.underlying44 hi0 hz0 hz1 hz2 rfl _ o.length (o.flatMap encA) rfl (HO.out.alloc _) _ [p] rfl (one_arc _ p) (by have := hol.out; simp; unfold maxLen; omega) (by have := hol.out; simp; omega) (by have := HZ.out; simp at this ⊢; omega) ?_; intro v2 w2 ho2 hg2; obtain ⟨HO2, HB2, HZ2⟩ := snoc_facts HO.out HZ.out ho2 hg2; clear ho2 hg2))
                go_roundw
                case rel => exact ⟨(d + 1) + 1, _, by omega, rfl, by go_num, by rw [HE.out]; exact HO2, HBD.out.trans HB2.out⟩
                case measure => simp [intOf]; omega
            · have HE : Hid (frsA O (d + 1 + 1) = o ++ [p]) := by show _ = _; rw [HT, if_neg (fun g => e0 (Prod.mk.inj g.2).1)]
              have n0 : (p.1 != q.1) = true := by simpa using e0
              clear HT
              go_wp2
              go_quiet (fail)
              have HO : Hid ((wr.drewN nq).ownsRow w5.heap.size 63 4 vo o.length (o.flatMap encA)) := hO
              have HZ : Hid (w5.heap.size ≤ (wr.drewN nq).heap.size) := hb.out.size
              have HBD : Hid (Below w5.heap.size w5 (wr.drewN nq)) := below_drewN hb.out nq
              clear hO hb
              generalize hwd : wr.drewN nq = wd at HO HZ HBD ⊢
              have P0 : wd.cell? ⟨b, off + (d + 1) * 4, none⟩ = some (.int .i64 p.1) := by rw [← hwd]; simpa using g0
              have P1 : wd.cell? ⟨b, off + (d + 1) * 4 + 1, none⟩ = some (.int .i64 p.2.1) := by rw [← hwd]; simpa using g1
              have P2 : wd.cell? ⟨b, off + (d + 1) * 4 + 2, none⟩ = some (.int .i64 p.2.2.1) := by rw [← hwd]; simpa using g2
              have P3 : wd.cell? ⟨b, off + (d + 1) * 4 + 3, none⟩ = some (.int .i64 p.2.2.2) := by rw [← hwd]; simpa using g3
              clear hwd g0 g1 g2 g3
              go_wp2_with (first
                | (at_builtin; refine wpList_append_rows encA_len (by decide) encA_one rfl _ _ 44 rfl w5.heap.size 63 i0 _ 32 Tryd.underlying44 hi0 hz0 hz1 hz2 rfl _ o.length (o.flatMap encA) rfl (HO.out.alloc _) _ [p] rfl (one_arc _ p) (by have := hol.out; simp; unfold maxLen; omega) (by have := hol.out; simp; omega) (by have := HZ.out; simp at this ⊢; omega) ?_; intro v2 w2 ho2 hg2; obtain ⟨HO2, HB2, HZ2⟩ := snoc_facts HO.out HZ.out ho2 hg2; clear ho2 hg2))
              go_roundw
              case rel => exact ⟨(d + 1) + 1, _, by omega, rfl, by go_num, by rw [HE.out]; exact HO2, HBD.out.trans HB2.out⟩
              case measure => simp [intOf]; omega
        · have hnl : ¬ (k : Int) < (n1 : Int) := by omega
          obtain rfl : k = n1 := by omega
          have HE : Hid ((frsA O k).map prA = PRS) := HPR
          have HLE : Hid ((frsA O k).length ≤ 400) := by have := HFL.out k; show _ ≤ _; omega
          go_wp2
          go_ret
          have HBF := HB5.out.trans (hb.out.mono HB5.out.size)
          have HOF := hO.out.mono (base' := w.heap.size) (by omega)
          exact ⟨_, rfl, frsA O k, HE.out, HLE.out, HOF, HBF⟩
end Go.Proofs.YtfekmlblldhieaaDoor.Wt
