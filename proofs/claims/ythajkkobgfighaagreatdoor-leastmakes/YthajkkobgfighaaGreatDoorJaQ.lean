/- The reference puts arcs in order, one by one. -/
import Derived.Test.YthajkkobgfighaaGreatDoorJat
import Derived.Test.YthajkkobgfighaaGreatDoorJaK
import Derived.Test.YthajkkobgfighaaGreatDoorJaA
import Derived.Test.YthajkkobgfighaaGreatDoorJac
namespace Go.Proofs.YthajkkobgfighaaGreatDoor.Wt
open Go.ChangeShapes Go.WideShapes Go.ChangeAt Go.RowKit
open Go.Proofs.YthajkkobgfighaaGreatDoor.Pl
set_option linter.unusedVariables false
set_option linter.unusedSimpArgs false
def HeldPa (B b off : Nat) (a p : Ar) (k : Nat) (w : World) : Prop :=
 (w.cell? ⟨B, 0, none⟩ = some (.int .i64 a.1) ∧ w.cell? ⟨B, 1, none⟩ = some (.int .i64 a.2.1) ∧ w.cell? ⟨B, 2, none⟩ = some (.int .i64 a.2.2.1) ∧ w.cell? ⟨B, 3, none⟩ = some (.int .i64 a.2.2.2)) ∧
 (w.cell? ⟨b, off + k * 4, none⟩ = some (.int .i64 p.1) ∧ w.cell? ⟨b, off + k * 4 + 1, none⟩ = some (.int .i64 p.2.1) ∧ w.cell? ⟨b, off + k * 4 + 2, none⟩ = some (.int .i64 p.2.2.1) ∧ w.cell? ⟨b, off + k * 4 + 3, none⟩ = some (.int .i64 p.2.2.2))
theorem HeldPa.below {B b off k : Nat} {a p : Ar} {w w' : World} (h : HeldPa B b off a p k w) (hb : Below (B + 1) w w') (hB : b < B) : HeldPa B b off a p k w' := by
 obtain ⟨⟨h1, h2, h3, h4⟩, h5, h6, h7, h8⟩ := h
 exact ⟨⟨(hb.cell (show B < _ by omega)).trans h1, (hb.cell (show B < _ by omega)).trans h2, (hb.cell (show B < _ by omega)).trans h3, (hb.cell (show B < _ by omega)).trans h4⟩, (hb.cell (show b < _ by omega)).trans h5, (hb.cell (show b < _ by omega)).trans h6, (hb.cell (show b < _ by omega)).trans h7, (hb.cell (show b < _ by omega)).trans h8⟩
theorem drop_el {l : List Ar} {k : Nat} (h : k < l.length) : l.drop k = el l k :: l.drop (k + 1) := by rw [List.drop_eq_getElem_cons h, el_get h]
set_option maxRecDepth 100000 in
set_option maxHeartbeats 3200000 in
theorem placed_any (v : Value) (l : List Ar) (a : Ar) (w : World) (h : Arcs w v l) (hl : l.length * 32 ≤ 140737488351232) :
  Calls Tryz.prog 69 #[v, .agg #[.int .i64 a.1, .int .i64 a.2.1, .int .i64 a.2.2.1, .int .i64 a.2.2.2]] w fun e w' => ∃ v', e = .returned v' ∧ w'.ownsRow w.heap.size 48 4 v' (placeL l a).length ((placeL l a).flatMap encA) ∧ Below w.heap.size w w' := by
 obtain ⟨i0, hi0, hz0, hz1, hz2⟩ := info_parts infoArc
 obtain ⟨sa, cap, rfl, hc⟩ := h.get
 have HC : Hid (∀ j, j < l.length → ∃ b off, sa = some ⟨b, off, none⟩ ∧ b < w.heap.size ∧ w.cell? ⟨b, off + j * 4, none⟩ = some (.int .i64 (el l j).1) ∧ w.cell? ⟨b, off + j * 4 + 1, none⟩ = some (.int .i64 (el l j).2.1) ∧ w.cell? ⟨b, off + j * 4 + 2, none⟩ = some (.int .i64 (el l j).2.2.1) ∧ w.cell? ⟨b, off + j * 4 + 3, none⟩ = some (.int .i64 (el l j).2.2.2)) := hc
 clear h hc
 have HPL : Hid ((placeL l a).length = l.length + 1) := placeL_length l a
 generalize hn : l.length = n at *
 have HN : Hid (l.length = n) := hn
 clear hn
 go_enter Tryz.func69, Tryz.ntmps69
 go_wp2
 go_loopw [5, 6, 7] (fun s5 dn i wr => ∃ (k : Nat) (d : Bool) (o : List Ar) (vo : Value), k ≤ n ∧ vo = s5 ∧ dn = .bool d ∧ i = .int .i64 k ∧ Hid (o.length ≤ k + d.toNat) ∧ Hid (o ++ (if d then l.drop k else placeL (l.drop k) a) = placeL l a) ∧ Hid (wr.ownsRow (w.heap.size + 1) 48 4 vo o.length (o.flatMap encA)) ∧ Hid (Blk wr w.heap.size #[.int .i64 a.1, .int .i64 a.2.1, .int .i64 a.2.2.1, .int .i64 a.2.2.2] 48) ∧ Hid (Below w.heap.size w wr) ∧ w.heap.size + 1 ≤ wr.heap.size) (fun _ _ i _ => n - (intOf i).toNat)
 case atStart => exact ⟨0, false, [], _, Nat.zero_le _, rfl, rfl, rfl, Nat.zero_le _, rfl, World.ownsRow_nil _ _ _ _, Blk.made _ _ _, by (show Below _ _ _); go_grown, by simp⟩
 case round =>
  obtain ⟨k, d, o, vo, hk, rfl, rfl, rfl, hol, hoe, hown, hbk, hb, hs⟩ := hrel
  by_cases hlt : k < n
  ·obtain ⟨b, off, rfl, hbl, g0, g1, g2, g3⟩ := HC.out k hlt
   have HD : Hid (l.drop k = el l k :: l.drop (k + 1)) := drop_el (by rw [HN.out]; exact hlt)
   have HS : HeldPa w.heap.size b off a (el l k) k wr.drew := ⟨⟨hbk.out.cell 0 rfl, hbk.out.cell 1 rfl, hbk.out.cell 2 rfl, hbk.out.cell 3 rfl⟩, (hb.out.cell (p := ⟨b, off + k * 4, none⟩) hbl).trans g0, (hb.out.cell (p := ⟨b, off + k * 4 + 1, none⟩) hbl).trans g1, (hb.out.cell (p := ⟨b, off + k * 4 + 2, none⟩) hbl).trans g2, (hb.out.cell (p := ⟨b, off + k * 4 + 3, none⟩) hbl).trans g3⟩
   clear g0 g1 g2 g3
   have hk0' : (0 : Int) ≤ (k : Int) := Int.natCast_nonneg _
   have hk1' : (k : Int) < (n : Int) := by omega
   generalize el l k = p at *
   have hnot : ∀ (x : Bool) (w : World), (Op.unary .not (.bool x)).run Tryz.prog w = .ok (.bool (!x)) w := fun _ _ => rfl
   cases d
   ·have hol : Hid (o.length ≤ k) := hol
    rcases bool_cases' (aheadB a p) with ha | ha
    ·have HA : Hid (aheadB a p = true) := ha
     have HE : Hid (o ++ [a] ++ [p] ++ (if true then l.drop (k + 1) else placeL (l.drop (k + 1)) a) = placeL l a) := by
      have h := hoe.out
      rw [HD.out] at h
      simp only [placeL, ha, if_true] at h
      show _ = _
      rw [if_pos rfl, ← h]; simp
     clear ha
     go_wp2
     refine region_anyL (HeldPa w.heap.size b off a p k) 1000 (by kernel_rfl) ?_
     refine anyL_tk (i := 0) (v := ?v0_1) aZ0 (by kernel_rfl) ?y0_1 HS ?r0_1
     case y0_1 => intro wx hx; obtain ⟨⟨h1, h2, h3, h4⟩, h5, h6, h7, h8⟩ := hx; go_simp; try (with_reducible rfl)
     simp only [Act.put, List.setIfInBounds_toArray, List.set_cons_zero, List.set_cons_succ]
     refine anyL_tk (i := 1) (v := ?v1_2) aZ1 (by kernel_rfl) ?y1_2 HS ?r1_2
     case y1_2 => intro wx hx; obtain ⟨⟨h1, h2, h3, h4⟩, h5, h6, h7, h8⟩ := hx; go_simp; try (with_reducible rfl)
     simp only [Act.put, List.setIfInBounds_toArray, List.set_cons_zero, List.set_cons_succ]
     refine anyL_tk (i := 2) (v := ?v2_3) aZ2 (by kernel_rfl) ?y2_3 HS ?r2_3
     case y2_3 => intro wx hx; obtain ⟨⟨h1, h2, h3, h4⟩, h5, h6, h7, h8⟩ := hx; go_simp; try (with_reducible rfl)
     simp only [Act.put, List.setIfInBounds_toArray, List.set_cons_zero, List.set_cons_succ]
     refine anyL_tg (i := 3) (v := ?v3_13) aZ3 (by kernel_rfl) ?y3_13 HS ?r3_13
     case y3_13 => intro wx hx; obtain ⟨⟨h1, h2, h3, h4⟩, h5, h6, h7, h8⟩ := hx; go_simp; try (with_reducible rfl)
     simp only [Act.put, List.setIfInBounds_toArray, List.set_cons_zero, List.set_cons_succ]
     refine anyL_tg (i := 4) (v := ?v4_14) aZ4 (by kernel_rfl) ?y4_14 HS ?r4_14
     case y4_14 => intro wx hx; obtain ⟨⟨h1, h2, h3, h4⟩, h5, h6, h7, h8⟩ := hx; go_simp; try (with_reducible rfl)
     simp only [Act.put, List.setIfInBounds_toArray, List.set_cons_zero, List.set_cons_succ]
     refine anyL_tg (i := 5) (v := ?v5_15) aZ5 (by kernel_rfl) ?y5_15 HS ?r5_15
     case y5_15 => intro wx hx; obtain ⟨⟨h1, h2, h3, h4⟩, h5, h6, h7, h8⟩ := hx; go_simp; try (with_reducible rfl)
     simp only [Act.put, List.setIfInBounds_toArray, List.set_cons_zero, List.set_cons_succ]
     refine anyL_tg (i := 6) (v := ?v6_16) aZ6 (by kernel_rfl) ?y6_16 HS ?r6_16
     case y6_16 => intro wx hx; obtain ⟨⟨h1, h2, h3, h4⟩, h5, h6, h7, h8⟩ := hx; go_simp; try (with_reducible rfl)
     simp only [Act.put, List.setIfInBounds_toArray, List.set_cons_zero, List.set_cons_succ]
     refine anyL_tg (i := 7) (v := ?v7_17) aZ7 (by kernel_rfl) ?y7_17 HS ?r7_17
     case y7_17 => intro wx hx; obtain ⟨⟨h1, h2, h3, h4⟩, h5, h6, h7, h8⟩ := hx; go_simp; try (with_reducible rfl)
     simp only [Act.put, List.setIfInBounds_toArray, List.set_cons_zero, List.set_cons_succ]
     refine anyL_oneG (i := 8) aZ8 (by kernel_rfl) (by rfl) (fun K hK => ?_)
     go_simp
     refine (refAhead a p _ true HA.out).mono ?_
     rintro e w1 ⟨rfl, hb1⟩
     have hbA : Below wr.heap.size wr w1 := ⟨hb1.os, hb1.tape, hb1.output, hb1.size, hb1.block⟩
     have HS1 : HeldPa w.heap.size b off a p k w1 := HeldPa.below (w := wr) HS (hbA.mono hs) hbl
     have HO : Hid (w1.ownsRow (w.heap.size + 1) 48 4 vo o.length (o.flatMap encA)) := own_below' hown.out hbA
     have HZ : Hid (w.heap.size + 1 ≤ w1.heap.size) := Nat.le_trans hs hbA.size
     have HBK : Hid (Blk w1 w.heap.size #[.int .i64 a.1, .int .i64 a.2.1, .int .i64 a.2.2.1, .int .i64 a.2.2.2] 48) := hbk.out.below hbA (by omega)
     have HBB : Hid (Below w.heap.size w w1) := hb.out.trans (hbA.mono hb.out.size)
     refine hK _ _ (.inr HS1) ?_
     try simp only [Act.put, List.setIfInBounds_toArray, List.set_cons_zero, List.set_cons_succ]
     refine anyL_tk (i := 9) (v := ?v9_4) aZ9 (by kernel_rfl) ?y9_4 HS1 ?r9_4
     case y9_4 => intro wx hx; obtain ⟨⟨h1, h2, h3, h4⟩, h5, h6, h7, h8⟩ := hx; go_simp; try (with_reducible rfl)
     simp only [Act.put, List.setIfInBounds_toArray, List.set_cons_zero, List.set_cons_succ]
     refine anyL_done (by kernel_rfl) (NoPanic.normal ?_)
     obtain ⟨⟨h1, h2, h3, h4⟩, h5, h6, h7, h8⟩ := HS1
     clear hown hbk hb hb1 hbA hoe HS
     have hmv := HZ.out
     go_wp2_with (first
      | (at_builtin; refine wpList_append_rows encA_len (by decide) encA_one rfl _ _ 31 rfl (w.heap.size + 1) 48 i0 _ 32 Tryz.underlying31 hi0 hz0 hz1 hz2 rfl _ (o).length ((o).flatMap encA) rfl (HO.out.alloc _) _ [a] rfl (one_arc _ a) (by have := hol.out; simp; unfold maxLen; omega) (by have := hol.out; simp; omega) (by have := HZ.out; simp; omega) ?_; intro v2 w2 ho2 hg2; obtain ⟨HO2, HB2, HZ2⟩ := snoc_facts (HO).out (HZ).out ho2 hg2; clear ho2 hg2; have q5 := (HB2.out.cell (p := ⟨b, off + k * 4, none⟩) (by show b < _; omega)).trans h5; have q6 := (HB2.out.cell (p := ⟨b, off + k * 4 + 1, none⟩) (by show b < _; omega)).trans h6; have q7 := (HB2.out.cell (p := ⟨b, off + k * 4 + 2, none⟩) (by show b < _; omega)).trans h7; have q8 := (HB2.out.cell (p := ⟨b, off + k * 4 + 3, none⟩) (by show b < _; omega)).trans h8)
      | (at_builtin; refine wpList_append_rows encA_len (by decide) encA_one rfl _ _ 31 rfl (w.heap.size + 1) 48 i0 _ 32 Tryz.underlying31 hi0 hz0 hz1 hz2 rfl _ (o ++ [a]).length ((o ++ [a]).flatMap encA) rfl (HO2.out.alloc _) _ [p] rfl (one_arc _ p) (by have := hol.out; simp; unfold maxLen; omega) (by have := hol.out; simp; omega) (by have := HZ2.out; simp; omega) ?_; intro v3 w3 ho3 hg3; obtain ⟨HO3, HB3, HZ3⟩ := snoc_facts (HO2).out (HZ2).out ho3 hg3; clear ho3 hg3))
     go_roundw
     case rel => exact ⟨k + 1, true, _, _, by omega, rfl, rfl, by go_num, by have := hol.out; simp [Hid]; omega, HE, HO3, HBK.out.below (HB2.out.trans HB3.out) (Nat.lt_succ_self _), HBB.out.trans ((HB2.out.trans HB3.out).mono (Nat.le_succ _)), HZ3.out⟩
     case measure => simp [intOf]; omega
    ·have HA : Hid (aheadB a p = false) := ha
     have HE : Hid (o ++ [p] ++ (if false then l.drop (k + 1) else placeL (l.drop (k + 1)) a) = placeL l a) := by
      have h := hoe.out
      rw [HD.out] at h
      simp only [placeL, ha] at h
      show _ = _
      rw [← h]; simp
     clear ha
     go_wp2
     refine region_anyL (HeldPa w.heap.size b off a p k) 1000 (by kernel_rfl) ?_
     refine anyL_tk (i := 0) (v := ?v0_5) aZ0 (by kernel_rfl) ?y0_5 HS ?r0_5
     case y0_5 => intro wx hx; obtain ⟨⟨h1, h2, h3, h4⟩, h5, h6, h7, h8⟩ := hx; go_simp; try (with_reducible rfl)
     simp only [Act.put, List.setIfInBounds_toArray, List.set_cons_zero, List.set_cons_succ]
     refine anyL_tk (i := 1) (v := ?v1_6) aZ1 (by kernel_rfl) ?y1_6 HS ?r1_6
     case y1_6 => intro wx hx; obtain ⟨⟨h1, h2, h3, h4⟩, h5, h6, h7, h8⟩ := hx; go_simp; try (with_reducible rfl)
     simp only [Act.put, List.setIfInBounds_toArray, List.set_cons_zero, List.set_cons_succ]
     refine anyL_tk (i := 2) (v := ?v2_7) aZ2 (by kernel_rfl) ?y2_7 HS ?r2_7
     case y2_7 => intro wx hx; obtain ⟨⟨h1, h2, h3, h4⟩, h5, h6, h7, h8⟩ := hx; go_simp; try (with_reducible rfl)
     simp only [Act.put, List.setIfInBounds_toArray, List.set_cons_zero, List.set_cons_succ]
     refine anyL_tg (i := 3) (v := ?v3_18) aZ3 (by kernel_rfl) ?y3_18 HS ?r3_18
     case y3_18 => intro wx hx; obtain ⟨⟨h1, h2, h3, h4⟩, h5, h6, h7, h8⟩ := hx; go_simp; try (with_reducible rfl)
     simp only [Act.put, List.setIfInBounds_toArray, List.set_cons_zero, List.set_cons_succ]
     refine anyL_tg (i := 4) (v := ?v4_19) aZ4 (by kernel_rfl) ?y4_19 HS ?r4_19
     case y4_19 => intro wx hx; obtain ⟨⟨h1, h2, h3, h4⟩, h5, h6, h7, h8⟩ := hx; go_simp; try (with_reducible rfl)
     simp only [Act.put, List.setIfInBounds_toArray, List.set_cons_zero, List.set_cons_succ]
     refine anyL_tg (i := 5) (v := ?v5_20) aZ5 (by kernel_rfl) ?y5_20 HS ?r5_20
     case y5_20 => intro wx hx; obtain ⟨⟨h1, h2, h3, h4⟩, h5, h6, h7, h8⟩ := hx; go_simp; try (with_reducible rfl)
     simp only [Act.put, List.setIfInBounds_toArray, List.set_cons_zero, List.set_cons_succ]
     refine anyL_tg (i := 6) (v := ?v6_21) aZ6 (by kernel_rfl) ?y6_21 HS ?r6_21
     case y6_21 => intro wx hx; obtain ⟨⟨h1, h2, h3, h4⟩, h5, h6, h7, h8⟩ := hx; go_simp; try (with_reducible rfl)
     simp only [Act.put, List.setIfInBounds_toArray, List.set_cons_zero, List.set_cons_succ]
     refine anyL_tg (i := 7) (v := ?v7_22) aZ7 (by kernel_rfl) ?y7_22 HS ?r7_22
     case y7_22 => intro wx hx; obtain ⟨⟨h1, h2, h3, h4⟩, h5, h6, h7, h8⟩ := hx; go_simp; try (with_reducible rfl)
     simp only [Act.put, List.setIfInBounds_toArray, List.set_cons_zero, List.set_cons_succ]
     refine anyL_oneG (i := 8) aZ8 (by kernel_rfl) (by rfl) (fun K hK => ?_)
     go_simp
     refine (refAhead a p _ false HA.out).mono ?_
     rintro e w1 ⟨rfl, hb1⟩
     have hbA : Below wr.heap.size wr w1 := ⟨hb1.os, hb1.tape, hb1.output, hb1.size, hb1.block⟩
     have HS1 : HeldPa w.heap.size b off a p k w1 := HeldPa.below (w := wr) HS (hbA.mono hs) hbl
     have HO : Hid (w1.ownsRow (w.heap.size + 1) 48 4 vo o.length (o.flatMap encA)) := own_below' hown.out hbA
     have HZ : Hid (w.heap.size + 1 ≤ w1.heap.size) := Nat.le_trans hs hbA.size
     have HBK : Hid (Blk w1 w.heap.size #[.int .i64 a.1, .int .i64 a.2.1, .int .i64 a.2.2.1, .int .i64 a.2.2.2] 48) := hbk.out.below hbA (by omega)
     have HBB : Hid (Below w.heap.size w w1) := hb.out.trans (hbA.mono hb.out.size)
     refine hK _ _ (.inr HS1) ?_
     try simp only [Act.put, List.setIfInBounds_toArray, List.set_cons_zero, List.set_cons_succ]
     refine anyL_tk (i := 9) (v := ?v9_8) aZ9 (by kernel_rfl) ?y9_8 HS1 ?r9_8
     case y9_8 => intro wx hx; obtain ⟨⟨h1, h2, h3, h4⟩, h5, h6, h7, h8⟩ := hx; go_simp; try (with_reducible rfl)
     simp only [Act.put, List.setIfInBounds_toArray, List.set_cons_zero, List.set_cons_succ]
     refine anyL_done (by kernel_rfl) (NoPanic.normal ?_)
     obtain ⟨⟨h1, h2, h3, h4⟩, h5, h6, h7, h8⟩ := HS1
     clear hown hbk hb hb1 hbA hoe HS
     have hmv := HZ.out
     go_wp2_with (first
      | (at_builtin; refine wpList_append_rows encA_len (by decide) encA_one rfl _ _ 31 rfl (w.heap.size + 1) 48 i0 _ 32 Tryz.underlying31 hi0 hz0 hz1 hz2 rfl _ (o).length ((o).flatMap encA) rfl (HO.out.alloc _) _ [p] rfl (one_arc _ p) (by have := hol.out; simp; unfold maxLen; omega) (by have := hol.out; simp; omega) (by have := HZ.out; simp; omega) ?_; intro v2 w2 ho2 hg2; obtain ⟨HO2, HB2, HZ2⟩ := snoc_facts (HO).out (HZ).out ho2 hg2; clear ho2 hg2))
     go_roundw
     case rel => exact ⟨k + 1, false, _, _, by omega, rfl, rfl, by go_num, by have := hol.out; simp [Hid]; omega, HE, HO2, HBK.out.below HB2.out (Nat.lt_succ_self _), HBB.out.trans (HB2.out.mono (Nat.le_succ _)), HZ2.out⟩
     case measure => simp [intOf]; omega
   ·have hol : Hid (o.length ≤ k + 1) := hol
    have HE : Hid (o ++ [p] ++ (if true then l.drop (k + 1) else placeL (l.drop (k + 1)) a) = placeL l a) := by
     have h := hoe.out
     rw [if_pos rfl, HD.out] at h
     show _ = _
     rw [if_pos rfl, List.append_assoc]; exact h
    go_wp2
    refine region_anyL (HeldPa w.heap.size b off a p k) 1000 (by kernel_rfl) ?_
    refine anyL_tk (i := 0) (v := ?v0_9) aZ0 (by kernel_rfl) ?y0_9 HS ?r0_9
    case y0_9 => intro wx hx; obtain ⟨⟨h1, h2, h3, h4⟩, h5, h6, h7, h8⟩ := hx; go_simp; try (with_reducible rfl)
    simp only [Act.put, List.setIfInBounds_toArray, List.set_cons_zero, List.set_cons_succ]
    refine anyL_tk (i := 1) (v := ?v1_10) aZ1 (by kernel_rfl) ?y1_10 HS ?r1_10
    case y1_10 => intro wx hx; obtain ⟨⟨h1, h2, h3, h4⟩, h5, h6, h7, h8⟩ := hx; go_simp; try (with_reducible rfl)
    simp only [Act.put, List.setIfInBounds_toArray, List.set_cons_zero, List.set_cons_succ]
    refine anyL_tk (i := 2) (v := ?v2_11) aZ2 (by kernel_rfl) ?y2_11 HS ?r2_11
    case y2_11 => intro wx hx; obtain ⟨⟨h1, h2, h3, h4⟩, h5, h6, h7, h8⟩ := hx; go_simp; try (with_reducible rfl)
    simp only [Act.put, List.setIfInBounds_toArray, List.set_cons_zero, List.set_cons_succ]
    refine anyL_skip (i := 3) aZ3 (by kernel_rfl) (by kernel_rfl) (by kernel_rfl) (by kernel_rfl) (fun _ _ _ h => h) (by rfl) HS ?_
    try simp only [Act.put, List.setIfInBounds_toArray, List.set_cons_zero, List.set_cons_succ]
    refine anyL_skip (i := 4) aZ4 (by kernel_rfl) (by kernel_rfl) (by kernel_rfl) (by kernel_rfl) (fun _ _ _ h => h) (by rfl) HS ?_
    try simp only [Act.put, List.setIfInBounds_toArray, List.set_cons_zero, List.set_cons_succ]
    refine anyL_skip (i := 5) aZ5 (by kernel_rfl) (by kernel_rfl) (by kernel_rfl) (by kernel_rfl) (fun _ _ _ h => h) (by rfl) HS ?_
    try simp only [Act.put, List.setIfInBounds_toArray, List.set_cons_zero, List.set_cons_succ]
    refine anyL_skip (i := 6) aZ6 (by kernel_rfl) (by kernel_rfl) (by kernel_rfl) (by kernel_rfl) (fun _ _ _ h => h) (by rfl) HS ?_
    try simp only [Act.put, List.setIfInBounds_toArray, List.set_cons_zero, List.set_cons_succ]
    refine anyL_skip (i := 7) aZ7 (by kernel_rfl) (by kernel_rfl) (by kernel_rfl) (by kernel_rfl) (fun _ _ _ h => h) (by rfl) HS ?_
    try simp only [Act.put, List.setIfInBounds_toArray, List.set_cons_zero, List.set_cons_succ]
    refine anyL_skip (i := 8) aZ8 (by kernel_rfl) (by kernel_rfl) (by kernel_rfl) (by kernel_rfl) (fun _ _ _ h => h) (by rfl) HS ?_
    try simp only [Act.put, List.setIfInBounds_toArray, List.set_cons_zero, List.set_cons_succ]
    refine anyL_tk (i := 9) (v := ?v9_12) aZ9 (by kernel_rfl) ?y9_12 HS ?r9_12
    case y9_12 => intro wx hx; obtain ⟨⟨h1, h2, h3, h4⟩, h5, h6, h7, h8⟩ := hx; go_simp; try (with_reducible rfl)
    simp only [Act.put, List.setIfInBounds_toArray, List.set_cons_zero, List.set_cons_succ]
    refine anyL_done (by kernel_rfl) (NoPanic.normal ?_)
    obtain ⟨⟨h1, h2, h3, h4⟩, h5, h6, h7, h8⟩ := HS
    have HO : Hid (wr.drew.ownsRow (w.heap.size + 1) 48 4 vo o.length (o.flatMap encA)) := hown
    have HZ : Hid (w.heap.size + 1 ≤ wr.drew.heap.size) := hs
    have HBK : Hid (Blk wr.drew w.heap.size #[.int .i64 a.1, .int .i64 a.2.1, .int .i64 a.2.2.1, .int .i64 a.2.2.2] 48) := hbk
    have HBB : Hid (Below w.heap.size w wr.drew) := hb.out.drew
    clear hown hbk hb hs hoe
    generalize wr.drew = wd at *
    go_wp2_with (first
     | (at_builtin; refine wpList_append_rows encA_len (by decide) encA_one rfl _ _ 31 rfl (w.heap.size + 1) 48 i0 _ 32 Tryz.underlying31 hi0 hz0 hz1 hz2 rfl _ (o).length ((o).flatMap encA) rfl (HO.out.alloc _) _ [p] rfl (one_arc _ p) (by have := hol.out; simp; unfold maxLen; omega) (by have := hol.out; simp; omega) (by have := HZ.out; simp; omega) ?_; intro v2 w2 ho2 hg2; obtain ⟨HO2, HB2, HZ2⟩ := snoc_facts (HO).out (HZ).out ho2 hg2; clear ho2 hg2))
    go_roundw
    case rel => exact ⟨k + 1, true, _, _, by omega, rfl, rfl, by go_num, by have := hol.out; simp [Hid]; omega, HE, HO2, HBK.out.below HB2.out (Nat.lt_succ_self _), HBB.out.trans (HB2.out.mono (Nat.le_succ _)), HZ2.out⟩
    case measure => simp [intOf]; omega
  ·have hke : k = n := by omega
   have HDN : Hid (l.drop k = []) := by show _ = _; rw [hke, ← HN.out]; exact List.drop_length
   have hnl : ¬ (k : Int) < (n : Int) := by omega
   have hnot : ∀ (x : Bool) (w : World), (Op.unary .not (.bool x)).run Tryz.prog w = .ok (.bool (!x)) w := fun _ _ => rfl
   have HZ : Hid (w.heap.size + 1 ≤ wr.heap.size) := hs
   have b0 := hbk.out.cell 0 (v := .int .i64 a.1) rfl
   have b1 := hbk.out.cell 1 (v := .int .i64 a.2.1) rfl
   have b2 := hbk.out.cell 2 (v := .int .i64 a.2.2.1) rfl
   have b3 := hbk.out.cell 3 (v := .int .i64 a.2.2.2) rfl
   replace hol : Hid (o.length ≤ k + 1) := Nat.le_trans hol (Nat.add_le_add_left (by cases d <;> decide) _)
   clear hke
   cases d
   ·have HE : Hid (o ++ [a] = placeL l a) := by
     have h := hoe.out
     rw [HDN.out] at h
     exact h
    go_wp2_with (first
     | (at_builtin; refine wpList_append_rows encA_len (by decide) encA_one rfl _ _ 31 rfl (w.heap.size + 1) 48 i0 _ 32 Tryz.underlying31 hi0 hz0 hz1 hz2 rfl _ (o).length ((o).flatMap encA) rfl (hown.out.alloc _) _ [a] rfl (one_arc _ a) (by have := hol.out; simp; unfold maxLen; omega) (by have := hol.out; simp; omega) (by have := HZ.out; simp; omega) ?_; intro v2 w2 ho2 hg2; obtain ⟨HO2, HB2, HZ2⟩ := snoc_facts (hown).out (HZ).out ho2 hg2; clear ho2 hg2))
    go_ret
    exact ⟨_, rfl, by rw [← HE.out]; exact own_mono' HO2.out (Nat.le_succ _), hb.out.trans (HB2.out.mono (Nat.le_succ _))⟩
   ·have HE : Hid (o = placeL l a) := by
     have h := hoe.out
     rw [if_pos rfl, HDN.out, List.append_nil] at h
     exact h
    go_wp2
    go_ret
    exact ⟨_, rfl, by rw [← HE.out]; exact own_mono' hown.out (Nat.le_succ _), hb.out⟩
set_option maxRecDepth 100000 in
theorem refInOrder_any (v : Value) (l : List Ar) (w : World) (h : Arcs w v l) (hl : l.length * 32 ≤ 140737488351232) :
  Calls Tryz.prog 35 #[v] w fun e w' => ∃ v', e = .returned v' ∧ w'.ownsRow w.heap.size 48 4 v' (ordL l).length ((ordL l).flatMap encA) ∧ Below w.heap.size w w' := by
 obtain ⟨sa, cap, rfl, hc⟩ := h.get
 have HC : Hid (∀ j, j < l.length → ∃ b off, sa = some ⟨b, off, none⟩ ∧ b < w.heap.size ∧ w.cell? ⟨b, off + j * 4, none⟩ = some (.int .i64 (el l j).1) ∧ w.cell? ⟨b, off + j * 4 + 1, none⟩ = some (.int .i64 (el l j).2.1) ∧ w.cell? ⟨b, off + j * 4 + 2, none⟩ = some (.int .i64 (el l j).2.2.1) ∧ w.cell? ⟨b, off + j * 4 + 3, none⟩ = some (.int .i64 (el l j).2.2.2)) := hc
 clear h hc
 generalize hn : l.length = n at *
 have HN : Hid (l.length = n) := hn
 clear hn
 go_enter Tryz.func35, Tryz.ntmps35
 go_wp2
 go_loopw [3, 4] (fun s3 i wr => ∃ (k : Nat) (vo : Value), k ≤ n ∧ vo = s3 ∧ i = .int .i64 k ∧ Hid (wr.ownsRow w.heap.size 48 4 vo (ordL (l.take k)).length ((ordL (l.take k)).flatMap encA)) ∧ Hid (Below w.heap.size w wr)) (fun _ i _ => n - (intOf i).toNat)
 case atStart => exact ⟨0, _, Nat.zero_le _, rfl, rfl, World.ownsRow_nil _ _ _ _, by (show Below _ _ _); go_grown⟩
 case round =>
  obtain ⟨k, vo, hk, rfl, rfl, hown, hb⟩ := hrel
  by_cases hlt : k < n
  ·obtain ⟨b, off, rfl, hbl, g0, g1, g2, g3⟩ := HC.out k hlt
   have g0 := (hb.out.cell (p := ⟨b, off + k * 4, none⟩) hbl).trans g0
   have g1 := (hb.out.cell (p := ⟨b, off + k * 4 + 1, none⟩) hbl).trans g1
   have g2 := (hb.out.cell (p := ⟨b, off + k * 4 + 2, none⟩) hbl).trans g2
   have g3 := (hb.out.cell (p := ⟨b, off + k * 4 + 3, none⟩) hbl).trans g3
   have HT : Hid (ordL (l.take (k + 1)) = placeL (ordL (l.take k)) (el l k)) := ordL_take (by rw [HN.out]; exact hlt)
   have HL : Hid ((ordL (l.take k)).length * 32 ≤ 140737488351232) := by show _ ≤ _; rw [ordL_length, List.length_take]; omega
   have HA : Hid (Arcs wr vo (ordL (l.take k))) := Row.ofOwn encA_len hown.out rfl
   have hk0' : (0 : Int) ≤ (k : Int) := Int.natCast_nonneg _
   have hk1' : (k : Int) < (n : Int) := by omega
   generalize el l k = p at *
   go_wp2_with (first
    | (go_at_call 69; (with_reducible refine (placed_any _ _ p _ HA.out HL.out).mono ?_); rintro e w2 ⟨v2, rfl, ho2, hb2⟩; have HO2 : Hid (w2.ownsRow w.heap.size 48 4 v2 (ordL (l.take (k + 1))).length ((ordL (l.take (k + 1))).flatMap encA)) := (by rw [HT.out]; exact own_mono' ho2 hb.out.size); have HB2 : Hid (Below w.heap.size w w2) := hb.out.trans (hb2.mono hb.out.size); clear ho2 hb2))
   go_roundw
   case rel => exact ⟨k + 1, _, by omega, rfl, by go_num, HO2, HB2⟩
   case measure => simp [intOf]; omega
  ·have hke : k = n := by omega
   have hnl : ¬ (k : Int) < (n : Int) := by omega
   have HO : Hid (wr.ownsRow w.heap.size 48 4 vo (ordL l).length ((ordL l).flatMap encA)) := by
    have h := hown.out
    rw [hke, ← HN.out, List.take_length] at h
    exact h
   clear hke hown
   go_wp2
   go_ret
   exact ⟨_, rfl, HO.out, hb.out⟩
end Go.Proofs.YthajkkobgfighaaGreatDoor.Wt
