/- compose.composer: the number of a triple; whether it is full. -/
import Derived.Test.YthcfkiinjcbajaaFa
namespace Go.Proofs.Ythcfkiinjcbajaa.Wt
open Go.ChangeShapes Go.WideShapes Go.ChangeAt Go.RowKit Go.Maps
open Go.Proofs.Ythcfkiinjcbajaa.Pl
set_option linter.unusedVariables false
set_option linter.unusedSimpArgs false
/-- All blocks but b and those of triples are as they were. -/
def CpoK (b : Nat) (w w' : World) : Prop := w.heap.size ≤ w'.heap.size ∧ ∀ k cs t, Blk w k cs t → k ≠ b → t ≠ 26 → Blk w' k cs t
theorem CpoK.refl (b : Nat) (w : World) : CpoK b w w := ⟨Nat.le_refl _, fun _ _ _ h _ _ => h⟩
theorem CpoK.trans {b : Nat} {w w1 w2 : World} (h : CpoK b w w1) (k : CpoK b w1 w2) : CpoK b w w2 := ⟨Nat.le_trans h.1 k.1, fun q cs t hb h1 h2 => k.2 q cs t (h.2 q cs t hb h1 h2) h1 h2⟩
theorem CpoK.of {b : Nat} {w w' : World} (h : Below w.heap.size w w') : CpoK b w w' := ⟨h.size, fun k cs t hb _ _ => hb.below h hb.lt⟩
theorem CpoK.set {b o : Nat} {w : World} {v : Value} : CpoK b w (w.setCell ⟨b, o, none⟩ v) := ⟨by simp [World.setCell], fun k cs t hb h1 _ => hb.setO _ _ h1⟩
theorem CpoK.trs {b base : Nat} {w w' : World} {v : Value} {L : List Tr} (ho : OwnT w base v L) (hg : w.grownBy w' v.ownBlock) : CpoK b w w' := ⟨hg.size, fun k cs t hb _ h2 => hb.grown hg (own_ne ho hb (Ne.symm h2))⟩
theorem CpoK.map {b m : Nat} {w w' : World} {L : List Tr} (hm : TrM w m L) (hg : w.grownBy w' (some m)) : CpoK b w w' := ⟨hg.size, fun k cs t hb _ h2 => hb.grown hg (fun e => by injection e with e; exact hm.neBlk hb e.symm)⟩
theorem CpoK.row {b base : Nat} {w w' : World} {e : TypeId} {s : Nat} {v : Value} {n : Nat} {xs : List Value} (hK : CpoK b w w') (ho : w.ownsRow base e s v n xs) (he : e ≠ 26) (hb : some b ≠ v.ownBlock) : w'.ownsRow base e s v n xs := by
  refine ⟨ho.1, ?_⟩
  rcases ho.2 with hn | ⟨g, cap, cur, rfl, hbg, hgg, rest⟩
  · exact .inl hn
  · exact .inr ⟨g, cap, cur, rfl, hbg, hK.2 g cur e hgg (fun e => hb (by simp [Value.ownBlock, e])) he, rest⟩
theorem CpoK.sts {b base : Nat} {w w' : World} {v : Value} {l : List St} {cs : Array Value} (hK : CpoK b w w') (hb : Blk w b cs 73) (ho : OwnSts w base v l) : OwnSts w' base v l := by
  obtain ⟨vs, h1, h2, h3⟩ := ho
  exact ⟨vs, hK.row h1 (by decide) (own_ne h1 hb (by decide)), h2, fun j hj => ⟨(h3 j hj).1, hK.row (h3 j hj).2 (by decide) (own_ne (h3 j hj).2 hb (by decide))⟩⟩
/-- The composer at b: the map of triples, the triples, the states, how many arcs. -/
structure CpoN (w : World) (base b mb : Nat) (vt vs : Value) (L : List Tr) (n : Int) : Prop where
  blk : Blk w b #[.map (some mb), vt, vs, .int .i64 n] 73
  tr : TrM w mb L
  trs : OwnT w base vt L
  hb : base ≤ b
  hm : base ≤ mb
variable {w w' : World} {base b mb : Nat} {vt vs : Value} {L : List Tr} {n : Int}
theorem CpoN.later (h : CpoN w base b mb vt vs L n) (hb : Below w.heap.size w w') : CpoN w' base b mb vt vs L n :=
  ⟨h.blk.below hb h.blk.lt, h.tr.keep (hb.block _ h.tr.lt), h.trs.later hb, h.hb, h.hm⟩
theorem CpoN.ne (h : CpoN w base b mb vt vs L n) : b ≠ mb := Ne.symm (h.tr.neBlk h.blk)
theorem OwnT.pushG {W : World} {base : Nat} {v : Value} {L : List Tr} (h : OwnT W base v L) (hb : base ≤ W.heap.size) (k : Tr) (hl : L.length ≤ 100000) :
    ∃ v' w', (Builtin.append_ #[71, 71] 71 #[v, .slice (some ⟨W.heap.size, 0, none⟩) 1 1]).run Try.prog (W.alloc (.cells (encT k).toArray 26)) = .ok v' w' ∧ OwnT w' base v' (L ++ [k]) ∧ Below base W w' ∧ (W.alloc (.cells (encT k).toArray 26)).grownBy w' v.ownBlock := by
  obtain ⟨i1, hi1, hy0, hy1, hy2⟩ := info_parts infoTrip
  obtain ⟨v4, w4, r4, ho4, hg4, _⟩ := run_append_spot (P := Try.prog) (w := W.alloc (.cells (encT k).toArray 26)) encT_len (by decide) encT_one 71 71 base 26 i1 _ 24 Try.underlying71 hi1 hy0 hy1 hy2 rfl _ L.length (L.flatMap encT) (World.ownsRow.alloc h _) _ [k] (oneRow (enc := encT) W k rfl 26) (by simp; unfold maxLen; omega) (by simp; omega) (by simp; omega)
  have ho : OwnT w4 base v4 (L ++ [k]) := by unfold OwnT; rw [List.length_append, List.flatMap_append]; exact ho4
  exact ⟨v4, w4, r4, ho, ((Below.refl _ _).alloc hb _).grown hg4 (by simp; omega) (own_geK h), hg4⟩
def HeldN3 (b : Nat) (vm vt : Value) (k : Nat) (x y z : Int) (w : World) : Prop := w.cell? ⟨b, 0, none⟩ = some vm ∧ w.cell? ⟨b, 1, none⟩ = some vt ∧ w.cell? ⟨k, 0, none⟩ = some (.int .i64 x) ∧ w.cell? ⟨k, 1, none⟩ = some (.int .i64 y) ∧ w.cell? ⟨k, 2, none⟩ = some (.int .i64 z)
def HeldN5 (b : Nat) (vm vt : Value) (k : Nat) (x y z : Int) (mb : Nat) (o : Option Obj) (w : World) : Prop := HeldN3 b vm vt k x y z w ∧ w.heap[mb]? = o
set_option maxRecDepth 100000 in
set_option maxHeartbeats 3200000 in
theorem numberOf_any (base b mb : Nat) (vt vs : Value) (L : List Tr) (n x0 x1 x2 : Int) (W : World) (h : CpoN W base b mb vt vs L n) (hN : L.Nodup) (hl : L.length < 100000) (hs : SmT (x0, x1, x2)) (hbW : base ≤ W.heap.size) :
    Calls Try.prog 55 #[.pointer (some ⟨b, 0, none⟩), .agg #[.int .i64 x0, .int .i64 x1, .int .i64 x2]] W fun e W' => e = .returned (.int .i64 (L.idxOf (x0, x1, x2) : Int)) ∧ (∃ vt', CpoN W' base b mb vt' vs (addQ L (x0, x1, x2)) n) ∧ CpoK b W W' ∧ Below base W W' := by
  have bl := h.blk.lt
  have ml := h.tr.lt
  have HBW : Below W.heap.size W (W.alloc (.cells #[.int .i64 x0, .int .i64 x1, .int .i64 x2] 26)) := (Below.refl _ _).alloc (Nat.le_refl _) _
  have kx := Blk.made W #[.int .i64 x0, .int .i64 x1, .int .i64 x2] 26
  obtain ⟨W2, hW2⟩ : ∃ W2, W2 = W.alloc (.cells #[.int .i64 x0, .int .i64 x1, .int .i64 x2] 26) := ⟨_, rfl⟩
  have hsz : W2.heap.size = W.heap.size + 1 := by rw [hW2]; simp
  rw [← hW2] at HBW kx
  have h2 := h.later HBW
  have HW2 := hidP hW2
  clear hW2
  have c0 := h2.blk.cell 0 (v := .map (some mb)) rfl
  have d0 := kx.cell 0 (v := .int .i64 x0) rfl
  have d1 := kx.cell 1 (v := .int .i64 x1) rfl
  have d2 := kx.cell 2 (v := .int .i64 x2) rfl
  obtain ⟨av, cv, hva⟩ := h2.trs.sl
  subst hva
  have c1 := h2.blk.cell 1 (v := .slice av L.length cv) rfl
  have HK2 := hidP (CpoK.of (b := b) HBW)
  have HB2 := hidP (HBW.mono hbW)
  rcases h2.tr.look hs with ⟨i, hi, hei, hlk⟩ | ⟨hno, hlk⟩
  · have hmem : (x0, x1, x2) ∈ L := hei ▸ el_mem hi
    have hix : L.idxOf (x0, x1, x2) = i := by rw [← hei]; exact idx_el hN hi
    rw [addQ_old hmem, hix]
    have HLK : Hid (∀ wx, wx.heap[mb]? = W2.heap[mb]? → (Instr.lookup 70 (.map (some mb)) (.agg #[.int .i64 x0, .int .i64 x1, .int .i64 x2]) true).run Try.prog wx = .ok (.tuple #[.int .i64 (i : Int), .bool true]) wx) := fun wx hwx => by
      rcases (h2.tr.keep (w' := wx) hwx).look hs with ⟨i2, hi2, hei2, hlk2⟩ | ⟨hno2, _⟩
      · have e : i2 = i := by
          have h9 := idx_el hN hi2
          rw [hei2, hix] at h9
          exact h9.symm
        subst e
        exact hlk2
      · exact absurd hmem hno2
    have H2 := hidP h2
    have hnot : ∀ (x : Bool) (w : World), (Op.unary .not (.bool x)).run Try.prog w = .ok (.bool (!x)) w := fun _ _ => rfl
    clear h h2 hlk hei hi hmem hix kx HBW hsz hN
    generalize L.length = nl at *
    go_enter Try.func55, Try.ntmps55
    go_wp2
    rw [← HW2.out]
    have HSQ : HeldN5 b (.map (some mb)) (.slice av nl cv) W.heap.size x0 x1 x2 mb W2.heap[mb]? W2.drew := ⟨⟨c0, c1, d0, d1, d2⟩, rfl⟩
    refine region_anyL (HeldN5 b (.map (some mb)) (.slice av nl cv) W.heap.size x0 x1 x2 mb W2.heap[mb]?) 1000 (by kernel_rfl) ?_
    refine anyL_take (i := 0) (v := ?v0_1) at0 (by kernel_rfl) (by kernel_rfl) (by kernel_rfl) (by kernel_rfl) (fun _ _ _ h => h) rfl ?y0_1 HSQ ?r0_1
    case y0_1 => intro wx hx; obtain ⟨⟨h0, h1, h2, h3, h4⟩, h5⟩ := hx; go_simp; try (with_reducible rfl)
    simp only [Act.put, List.setIfInBounds_toArray, List.set_cons_zero, List.set_cons_succ]
    refine anyL_take (i := 1) (v := ?v1_2) (atS at0) (by kernel_rfl) (by kernel_rfl) (by kernel_rfl) (by kernel_rfl) (fun _ _ _ h => h) rfl ?y1_2 HSQ ?r1_2
    case y1_2 => intro wx hx; obtain ⟨⟨h0, h1, h2, h3, h4⟩, h5⟩ := hx; go_simp; try (with_reducible rfl)
    simp only [Act.put, List.setIfInBounds_toArray, List.set_cons_zero, List.set_cons_succ]
    refine anyL_take (i := 2) (v := ?v2_3) (atS (atS at0)) (by kernel_rfl) (by kernel_rfl) (by kernel_rfl) (by kernel_rfl) (fun _ _ _ h => h) rfl ?y2_3 HSQ ?r2_3
    case y2_3 => intro wx hx; obtain ⟨⟨h0, h1, h2, h3, h4⟩, h5⟩ := hx; go_simp; try (with_reducible rfl)
    simp only [Act.put, List.setIfInBounds_toArray, List.set_cons_zero, List.set_cons_succ]
    refine anyL_take (i := 3) (v := ?v3_4) (atS (atS (atS at0))) (by kernel_rfl) (by kernel_rfl) (by kernel_rfl) (by kernel_rfl) (fun _ _ _ h => h) rfl ?y3_4 HSQ ?r3_4
    case y3_4 => intro wx hx; obtain ⟨⟨h0, h1, h2, h3, h4⟩, h5⟩ := hx; go_simp; try (with_reducible rfl)
    simp only [Act.put, List.setIfInBounds_toArray, List.set_cons_zero, List.set_cons_succ]
    refine anyL_take (i := 4) (v := ?v4_5) (atS (atS (atS (atS at0)))) (by kernel_rfl) (by kernel_rfl) (by kernel_rfl) (by kernel_rfl) (fun _ _ _ h => h) rfl ?y4_5 HSQ ?r4_5
    case y4_5 => intro wx hx; obtain ⟨⟨h0, h1, h2, h3, h4⟩, h5⟩ := hx; go_simp; try (with_reducible rfl)
    simp only [Act.put, List.setIfInBounds_toArray, List.set_cons_zero, List.set_cons_succ]
    refine anyL_take (i := 5) (v := .tuple #[.int .i64 (Nat.cast i), .bool true]) (atS (atS (atS (atS (atS at0))))) (by kernel_rfl) (by kernel_rfl) (by kernel_rfl) (by kernel_rfl) (fun _ _ _ h => h) rfl ?y5_33 HSQ ?r5_33
    case y5_33 => intro wx hx; obtain ⟨_, h5⟩ := hx; have h6 := HLK.out wx h5; go_simp
    simp only [Act.put, List.setIfInBounds_toArray, List.set_cons_zero, List.set_cons_succ]
    refine anyL_take (i := 6) (v := ?v6_6) (atS (atS (atS (atS (atS (atS at0)))))) (by kernel_rfl) (by kernel_rfl) (by kernel_rfl) (by kernel_rfl) (fun _ _ _ h => h) rfl ?y6_6 HSQ ?r6_6
    case y6_6 => intro wx hx; obtain ⟨⟨h0, h1, h2, h3, h4⟩, h5⟩ := hx; go_simp; try (with_reducible rfl)
    simp only [Act.put, List.setIfInBounds_toArray, List.set_cons_zero, List.set_cons_succ]
    refine anyL_take (i := 7) (v := ?v7_7) (atS (atS (atS (atS (atS (atS (atS at0))))))) (by kernel_rfl) (by kernel_rfl) (by kernel_rfl) (by kernel_rfl) (fun _ _ _ h => h) rfl ?y7_7 HSQ ?r7_7
    case y7_7 => intro wx hx; obtain ⟨⟨h0, h1, h2, h3, h4⟩, h5⟩ := hx; go_simp; try (with_reducible rfl)
    simp only [Act.put, List.setIfInBounds_toArray, List.set_cons_zero, List.set_cons_succ]
    refine anyL_take (i := 8) (v := ?v8_8) (atS (atS (atS (atS (atS (atS (atS (atS at0)))))))) (by kernel_rfl) (by kernel_rfl) (by kernel_rfl) (by kernel_rfl) (fun _ _ _ h => h) rfl ?y8_8 HSQ ?r8_8
    case y8_8 => intro wx hx; obtain ⟨⟨h0, h1, h2, h3, h4⟩, h5⟩ := hx; go_simp; try (with_reducible rfl)
    simp only [Act.put, List.setIfInBounds_toArray, List.set_cons_zero, List.set_cons_succ]
    refine anyL_take (i := 9) (v := ?v9_9) (atS (atS (atS (atS (atS (atS (atS (atS (atS at0))))))))) (by kernel_rfl) (by kernel_rfl) (by kernel_rfl) (by kernel_rfl) (fun _ _ _ h => h) rfl ?y9_9 HSQ ?r9_9
    case y9_9 => intro wx hx; obtain ⟨⟨h0, h1, h2, h3, h4⟩, h5⟩ := hx; go_simp; try (with_reducible rfl)
    simp only [Act.put, List.setIfInBounds_toArray, List.set_cons_zero, List.set_cons_succ]
    refine anyL_take (i := 10) (v := ?v10_10) (atS (atS (atS (atS (atS (atS (atS (atS (atS (atS at0)))))))))) (by kernel_rfl) (by kernel_rfl) (by kernel_rfl) (by kernel_rfl) (fun _ _ _ h => h) rfl ?y10_10 HSQ ?r10_10
    case y10_10 => intro wx hx; obtain ⟨⟨h0, h1, h2, h3, h4⟩, h5⟩ := hx; go_simp; try (with_reducible rfl)
    simp only [Act.put, List.setIfInBounds_toArray, List.set_cons_zero, List.set_cons_succ]
    refine anyL_done (by kernel_rfl) (NoPanic.normal ?_)
    try simp only [Act.put, List.setIfInBounds_toArray, List.set_cons_zero, List.set_cons_succ]
    clear HSQ
    go_wp2
    go_ret
    exact ⟨rfl, ⟨_, H2.out.later ((Below.refl _ _).drew)⟩, HK2.out.trans (CpoK.of ((Below.refl _ _).drew)), HB2.out.drew⟩
  · rw [addQ_new hno, idx_new hno]
    have HLK : Hid (∀ wx, wx.heap[mb]? = W2.heap[mb]? → (Instr.lookup 70 (.map (some mb)) (.agg #[.int .i64 x0, .int .i64 x1, .int .i64 x2]) true).run Try.prog wx = .ok (.tuple #[.int .i64 0, .bool false]) wx) := fun wx hwx => by
      rcases (h2.tr.keep (w' := wx) hwx).look hs with ⟨i2, hi2, hei2, hlk2⟩ | ⟨hno2, hlk2⟩
      · exact absurd (hei2 ▸ el_mem hi2) hno
      · exact hlk2
    obtain ⟨W4, hup, hM4, hg4⟩ := (h2.tr.keep (w' := W2.drew.drew) rfl).put hs hno hl
    have mneb : b ≠ mb := h2.ne
    have hB4 : Blk W4 b #[.map (some mb), .slice av L.length cv, vs, .int .i64 n] 73 := (h2.blk.drew.drew).grown hg4 (fun e => mneb (by injection e))
    have kx4 : Blk W4 W.heap.size #[.int .i64 x0, .int .i64 x1, .int .i64 x2] 26 := (kx.drew.drew).grown hg4 (fun e => by injection e with e; omega)
    have hO4 : OwnT W4 base (.slice av L.length cv) L := World.ownsRow.kept (w := W2.drew.drew) h2.trs hg4 (.inr (Ne.symm (h2.tr.neRow h2.trs)))
    have hs4 : W.heap.size + 1 ≤ W4.heap.size := by have := hg4.size; show _ ≤ _; have e : W2.drew.drew.heap.size = W2.heap.size := rfl; omega
    have hA5 : Below W4.heap.size W4 (W4.drew.alloc (.cells (encT (x0, x1, x2)).toArray 26)) := ((Below.refl _ _).drew).alloc (Nat.le_refl _) _
    obtain ⟨v6, w6, hr6, ho6, hb6, hg6⟩ := OwnT.pushG (W := W4.drew) (hO4.later ((Below.refl _ _).drew)) (by show base ≤ W4.heap.size; omega) (x0, x1, x2) (by omega)
    obtain ⟨a6, c6, hv6⟩ := ho6.sl
    rw [show (L ++ [(x0, x1, x2)]).length = L.length + 1 from by simp] at hv6
    subst hv6
    have hrow5 : OwnT (W4.drew.alloc (.cells (encT (x0, x1, x2)).toArray 26)) base (.slice av L.length cv) L := hO4.later hA5
    have hB5 := hB4.below hA5 hB4.lt
    have hk5 := kx4.below hA5 kx4.lt
    have hB6 : Blk w6 b #[.map (some mb), .slice av L.length cv, vs, .int .i64 n] 73 := hB5.grown hg6 (own_ne hrow5 hB5 (by decide))
    have hk6 : Blk w6 W.heap.size #[.int .i64 x0, .int .i64 x1, .int .i64 x2] 26 := hk5.grown hg6 (fun e => by have := (h.trs.lt _ e.symm).2; omega)
    have hM5 : TrM (W4.drew.alloc (.cells (encT (x0, x1, x2)).toArray 26)) mb (L ++ [(x0, x1, x2)]) := hM4.keep (hA5.block _ hM4.lt)
    have hM6 := hM5.keep (hg6.block _ hM5.lt (hM5.neRow hrow5))
    have hB7 := hB6.set 1 (.slice a6 (L.length + 1) c6)
    have gne : some b ≠ (Value.slice a6 (L.length + 1) c6).ownBlock := own_ne ho6 hB6 (by decide)
    have hO7 : OwnT (w6.setCell ⟨b, 1, none⟩ (.slice a6 (L.length + 1) c6)) base (.slice a6 (L.length + 1) c6) (L ++ [(x0, x1, x2)]) := World.ownsRow.kept ho6 (gSet w6 b 1 _) (.inr (Ne.symm gne))
    have hM7 := hM6.keep (Below.heap_setCell w6 ⟨b, 1, none⟩ (.slice a6 (L.length + 1) c6) mb (Ne.symm mneb))
    have hB47 : Below base W W4 := (HB2.out.drew.drew).grown hg4 (by show base ≤ W2.heap.size; omega) (fun k hk => by injection hk with hk; rw [← hk]; exact h2.hm)
    have HBE := hidP ((hB47.trans (((Below.refl base W4).drew).trans hb6)).setCell (p := ⟨b, 1, none⟩) h2.hb (.slice a6 (L.length + 1) c6))
    have HKE := hidP (((((HK2.out.trans (CpoK.of (((Below.refl W2.heap.size W2).drew).drew))).trans (CpoK.map (h2.tr.keep (w' := W2.drew.drew) rfl) hg4)).trans (CpoK.of hA5)).trans (CpoK.trs hrow5 hg6)).trans (CpoK.set (o := 1) (v := .slice a6 (L.length + 1) c6)))
    have HN7 : Hid (CpoN (w6.setCell ⟨b, 1, none⟩ (.slice a6 (L.length + 1) c6)) base b mb (.slice a6 (L.length + 1) c6) vs (L ++ [(x0, x1, x2)]) n) := ⟨hB7, hM7, hO7, h2.hb, h2.hm⟩
    have HUP := hidP hup
    have HR6 := hidP hr6
    have HSA : HeldN3 b (.map (some mb)) (.slice av L.length cv) W.heap.size x0 x1 x2 W4.drew := ⟨hB4.cell 0 rfl, hB4.cell 1 rfl, kx4.cell 0 rfl, kx4.cell 1 rfl, kx4.cell 2 rfl⟩
    have HSB : HeldN3 b (.map (some mb)) (.slice av L.length cv) W.heap.size x0 x1 x2 (W4.drew.alloc (.cells #[.int .i64 x0, .int .i64 x1, .int .i64 x2] 26)) := ⟨hB5.cell 0 rfl, hB5.cell 1 rfl, hk5.cell 0 rfl, hk5.cell 1 rfl, hk5.cell 2 rfl⟩
    have HSC : HeldN3 b (.map (some mb)) (.slice av L.length cv) W.heap.size x0 x1 x2 w6 := ⟨hB6.cell 0 rfl, hB6.cell 1 rfl, hk6.cell 0 rfl, hk6.cell 1 rfl, hk6.cell 2 rfl⟩
    have c6' := hB6.cell 1 (v := .slice av L.length cv) rfl
    have f6 := hB6.fz 1
    have hnot : ∀ (x : Bool) (w : World), (Op.unary .not (.bool x)).run Try.prog w = .ok (.bool (!x)) w := fun _ _ => rfl
    clear hlk h h2 HBW kx hup hM4 hg4 hB4 kx4 hO4 hA5 hr6 ho6 hb6 hg6 hB5 hk5 hB6 hk6 hM5 hM6 hB7 hO7 hM7 hB47 gne hno hs hN hsz hrow5
    generalize L ++ [(x0, x1, x2)] = L2 at *
    generalize hn : L.length = nl at *
    clear hn
    go_enter Try.func55, Try.ntmps55
    go_wp2
    rw [← HW2.out]
    have HSQ : HeldN5 b (.map (some mb)) (.slice av nl cv) W.heap.size x0 x1 x2 mb W2.heap[mb]? W2.drew := ⟨⟨c0, c1, d0, d1, d2⟩, rfl⟩
    refine region_anyL (HeldN5 b (.map (some mb)) (.slice av nl cv) W.heap.size x0 x1 x2 mb W2.heap[mb]?) 1000 (by kernel_rfl) ?_
    refine anyL_take (i := 0) (v := ?v0_11) at0 (by kernel_rfl) (by kernel_rfl) (by kernel_rfl) (by kernel_rfl) (fun _ _ _ h => h) rfl ?y0_11 HSQ ?r0_11
    case y0_11 => intro wx hx; obtain ⟨⟨h0, h1, h2, h3, h4⟩, h5⟩ := hx; go_simp; try (with_reducible rfl)
    simp only [Act.put, List.setIfInBounds_toArray, List.set_cons_zero, List.set_cons_succ]
    refine anyL_take (i := 1) (v := ?v1_12) (atS at0) (by kernel_rfl) (by kernel_rfl) (by kernel_rfl) (by kernel_rfl) (fun _ _ _ h => h) rfl ?y1_12 HSQ ?r1_12
    case y1_12 => intro wx hx; obtain ⟨⟨h0, h1, h2, h3, h4⟩, h5⟩ := hx; go_simp; try (with_reducible rfl)
    simp only [Act.put, List.setIfInBounds_toArray, List.set_cons_zero, List.set_cons_succ]
    refine anyL_take (i := 2) (v := ?v2_13) (atS (atS at0)) (by kernel_rfl) (by kernel_rfl) (by kernel_rfl) (by kernel_rfl) (fun _ _ _ h => h) rfl ?y2_13 HSQ ?r2_13
    case y2_13 => intro wx hx; obtain ⟨⟨h0, h1, h2, h3, h4⟩, h5⟩ := hx; go_simp; try (with_reducible rfl)
    simp only [Act.put, List.setIfInBounds_toArray, List.set_cons_zero, List.set_cons_succ]
    refine anyL_take (i := 3) (v := ?v3_14) (atS (atS (atS at0))) (by kernel_rfl) (by kernel_rfl) (by kernel_rfl) (by kernel_rfl) (fun _ _ _ h => h) rfl ?y3_14 HSQ ?r3_14
    case y3_14 => intro wx hx; obtain ⟨⟨h0, h1, h2, h3, h4⟩, h5⟩ := hx; go_simp; try (with_reducible rfl)
    simp only [Act.put, List.setIfInBounds_toArray, List.set_cons_zero, List.set_cons_succ]
    refine anyL_take (i := 4) (v := ?v4_15) (atS (atS (atS (atS at0)))) (by kernel_rfl) (by kernel_rfl) (by kernel_rfl) (by kernel_rfl) (fun _ _ _ h => h) rfl ?y4_15 HSQ ?r4_15
    case y4_15 => intro wx hx; obtain ⟨⟨h0, h1, h2, h3, h4⟩, h5⟩ := hx; go_simp; try (with_reducible rfl)
    simp only [Act.put, List.setIfInBounds_toArray, List.set_cons_zero, List.set_cons_succ]
    refine anyL_take (i := 5) (v := .tuple #[.int .i64 0, .bool false]) (atS (atS (atS (atS (atS at0))))) (by kernel_rfl) (by kernel_rfl) (by kernel_rfl) (by kernel_rfl) (fun _ _ _ h => h) rfl ?y5_34 HSQ ?r5_34
    case y5_34 => intro wx hx; obtain ⟨_, h5⟩ := hx; have h6 := HLK.out wx h5; go_simp
    simp only [Act.put, List.setIfInBounds_toArray, List.set_cons_zero, List.set_cons_succ]
    refine anyL_take (i := 6) (v := ?v6_16) (atS (atS (atS (atS (atS (atS at0)))))) (by kernel_rfl) (by kernel_rfl) (by kernel_rfl) (by kernel_rfl) (fun _ _ _ h => h) rfl ?y6_16 HSQ ?r6_16
    case y6_16 => intro wx hx; obtain ⟨⟨h0, h1, h2, h3, h4⟩, h5⟩ := hx; go_simp; try (with_reducible rfl)
    simp only [Act.put, List.setIfInBounds_toArray, List.set_cons_zero, List.set_cons_succ]
    refine anyL_take (i := 7) (v := ?v7_17) (atS (atS (atS (atS (atS (atS (atS at0))))))) (by kernel_rfl) (by kernel_rfl) (by kernel_rfl) (by kernel_rfl) (fun _ _ _ h => h) rfl ?y7_17 HSQ ?r7_17
    case y7_17 => intro wx hx; obtain ⟨⟨h0, h1, h2, h3, h4⟩, h5⟩ := hx; go_simp; try (with_reducible rfl)
    simp only [Act.put, List.setIfInBounds_toArray, List.set_cons_zero, List.set_cons_succ]
    refine anyL_take (i := 8) (v := ?v8_18) (atS (atS (atS (atS (atS (atS (atS (atS at0)))))))) (by kernel_rfl) (by kernel_rfl) (by kernel_rfl) (by kernel_rfl) (fun _ _ _ h => h) rfl ?y8_18 HSQ ?r8_18
    case y8_18 => intro wx hx; obtain ⟨⟨h0, h1, h2, h3, h4⟩, h5⟩ := hx; go_simp; try (with_reducible rfl)
    simp only [Act.put, List.setIfInBounds_toArray, List.set_cons_zero, List.set_cons_succ]
    refine anyL_take (i := 9) (v := ?v9_19) (atS (atS (atS (atS (atS (atS (atS (atS (atS at0))))))))) (by kernel_rfl) (by kernel_rfl) (by kernel_rfl) (by kernel_rfl) (fun _ _ _ h => h) rfl ?y9_19 HSQ ?r9_19
    case y9_19 => intro wx hx; obtain ⟨⟨h0, h1, h2, h3, h4⟩, h5⟩ := hx; go_simp; try (with_reducible rfl)
    simp only [Act.put, List.setIfInBounds_toArray, List.set_cons_zero, List.set_cons_succ]
    refine anyL_take (i := 10) (v := ?v10_20) (atS (atS (atS (atS (atS (atS (atS (atS (atS (atS at0)))))))))) (by kernel_rfl) (by kernel_rfl) (by kernel_rfl) (by kernel_rfl) (fun _ _ _ h => h) rfl ?y10_20 HSQ ?r10_20
    case y10_20 => intro wx hx; obtain ⟨⟨h0, h1, h2, h3, h4⟩, h5⟩ := hx; go_simp; try (with_reducible rfl)
    simp only [Act.put, List.setIfInBounds_toArray, List.set_cons_zero, List.set_cons_succ]
    refine anyL_done (by kernel_rfl) (NoPanic.normal ?_)
    try simp only [Act.put, List.setIfInBounds_toArray, List.set_cons_zero, List.set_cons_succ]
    clear HSQ
    go_wp2
    have HSL : HeldN3 b (.map (some mb)) (.slice av nl cv) W.heap.size x0 x1 x2 W2.drew.drew := ⟨c0, c1, d0, d1, d2⟩
    refine region_anyL (HeldN3 b (.map (some mb)) (.slice av nl cv) W.heap.size x0 x1 x2) 6 (by kernel_rfl) ?_
    refine anyL_take (i := 0) (v := ?v0_21) at0 (by kernel_rfl) (by kernel_rfl) (by kernel_rfl) (by kernel_rfl) (fun _ _ _ h => h) rfl ?y0_21 HSL ?r0_21
    case y0_21 => intro wx hx; obtain ⟨h0, h1, h2, h3, h4⟩ := hx; go_simp; try (with_reducible rfl)
    simp only [Act.put, List.setIfInBounds_toArray, List.set_cons_zero, List.set_cons_succ]
    refine anyL_take (i := 1) (v := ?v1_22) (atS at0) (by kernel_rfl) (by kernel_rfl) (by kernel_rfl) (by kernel_rfl) (fun _ _ _ h => h) rfl ?y1_22 HSL ?r1_22
    case y1_22 => intro wx hx; obtain ⟨h0, h1, h2, h3, h4⟩ := hx; go_simp; try (with_reducible rfl)
    simp only [Act.put, List.setIfInBounds_toArray, List.set_cons_zero, List.set_cons_succ]
    refine anyL_take (i := 2) (v := ?v2_23) (atS (atS at0)) (by kernel_rfl) (by kernel_rfl) (by kernel_rfl) (by kernel_rfl) (fun _ _ _ h => h) rfl ?y2_23 HSL ?r2_23
    case y2_23 => intro wx hx; obtain ⟨h0, h1, h2, h3, h4⟩ := hx; go_simp; try (with_reducible rfl)
    simp only [Act.put, List.setIfInBounds_toArray, List.set_cons_zero, List.set_cons_succ]
    refine anyL_take (i := 3) (v := ?v3_24) (atS (atS (atS at0))) (by kernel_rfl) (by kernel_rfl) (by kernel_rfl) (by kernel_rfl) (fun _ _ _ h => h) rfl ?y3_24 HSL ?r3_24
    case y3_24 => intro wx hx; obtain ⟨h0, h1, h2, h3, h4⟩ := hx; go_simp; try (with_reducible rfl)
    simp only [Act.put, List.setIfInBounds_toArray, List.set_cons_zero, List.set_cons_succ]
    refine anyL_take (i := 4) (v := ?v4_25) (atS (atS (atS (atS at0)))) (by kernel_rfl) (by kernel_rfl) (by kernel_rfl) (by kernel_rfl) (fun _ _ _ h => h) rfl ?y4_25 HSL ?r4_25
    case y4_25 => intro wx hx; obtain ⟨h0, h1, h2, h3, h4⟩ := hx; go_simp; try (with_reducible rfl)
    simp only [Act.put, List.setIfInBounds_toArray, List.set_cons_zero, List.set_cons_succ]
    refine anyL_take (i := 5) (v := ?v5_26) (atS (atS (atS (atS (atS at0))))) (by kernel_rfl) (by kernel_rfl) (by kernel_rfl) (by kernel_rfl) (fun _ _ _ h => h) rfl ?y5_26 HSL ?r5_26
    case y5_26 => intro wx hx; obtain ⟨h0, h1, h2, h3, h4⟩ := hx; go_simp; try (with_reducible rfl)
    simp only [Act.put, List.setIfInBounds_toArray, List.set_cons_zero, List.set_cons_succ]
    refine anyL_one (i := 6) (atS (atS (atS (atS (atS (atS at0)))))) (by kernel_rfl) rfl (fun K hK => ?_)
    have hup := HUP.out
    clear HSL c0 c1 d0 d1 d2
    go_simp
    refine hK _ _ (.inl rfl) (anyL_done (by kernel_rfl) (NoPanic.normal ?_))
    try simp only [Act.put, List.setIfInBounds_toArray, List.set_cons_zero, List.set_cons_succ]
    clear hup
    go_wp2
    refine region_anyL (HeldN3 b (.map (some mb)) (.slice av nl cv) W.heap.size x0 x1 x2) 10 (by kernel_rfl) ?_
    refine anyL_take (i := 0) (v := ?v0_27) at0 (by kernel_rfl) (by kernel_rfl) (by kernel_rfl) (by kernel_rfl) (fun _ _ _ h => h) rfl ?y0_27 HSA ?r0_27
    case y0_27 => intro wx hx; obtain ⟨h0, h1, h2, h3, h4⟩ := hx; go_simp; try (with_reducible rfl)
    simp only [Act.put, List.setIfInBounds_toArray, List.set_cons_zero, List.set_cons_succ]
    refine anyL_take (i := 1) (v := ?v1_28) (atS at0) (by kernel_rfl) (by kernel_rfl) (by kernel_rfl) (by kernel_rfl) (fun _ _ _ h => h) rfl ?y1_28 HSA ?r1_28
    case y1_28 => intro wx hx; obtain ⟨h0, h1, h2, h3, h4⟩ := hx; go_simp; try (with_reducible rfl)
    simp only [Act.put, List.setIfInBounds_toArray, List.set_cons_zero, List.set_cons_succ]
    refine anyL_take (i := 2) (v := ?v2_29) (atS (atS at0)) (by kernel_rfl) (by kernel_rfl) (by kernel_rfl) (by kernel_rfl) (fun _ _ _ h => h) rfl ?y2_29 HSA ?r2_29
    case y2_29 => intro wx hx; obtain ⟨h0, h1, h2, h3, h4⟩ := hx; go_simp; try (with_reducible rfl)
    simp only [Act.put, List.setIfInBounds_toArray, List.set_cons_zero, List.set_cons_succ]
    refine anyL_take (i := 3) (v := ?v3_30) (atS (atS (atS at0))) (by kernel_rfl) (by kernel_rfl) (by kernel_rfl) (by kernel_rfl) (fun _ _ _ h => h) rfl ?y3_30 HSA ?r3_30
    case y3_30 => intro wx hx; obtain ⟨h0, h1, h2, h3, h4⟩ := hx; go_simp; try (with_reducible rfl)
    simp only [Act.put, List.setIfInBounds_toArray, List.set_cons_zero, List.set_cons_succ]
    refine anyL_take (i := 4) (v := ?v4_31) (atS (atS (atS (atS at0)))) (by kernel_rfl) (by kernel_rfl) (by kernel_rfl) (by kernel_rfl) (fun _ _ _ h => h) rfl ?y4_31 HSA ?r4_31
    case y4_31 => intro wx hx; obtain ⟨h0, h1, h2, h3, h4⟩ := hx; go_simp; try (with_reducible rfl)
    simp only [Act.put, List.setIfInBounds_toArray, List.set_cons_zero, List.set_cons_succ]
    refine anyL_take (i := 5) (v := ?v5_32) (atS (atS (atS (atS (atS at0))))) (by kernel_rfl) (by kernel_rfl) (by kernel_rfl) (by kernel_rfl) (fun _ _ _ h => h) rfl ?y5_32 HSA ?r5_32
    case y5_32 => intro wx hx; obtain ⟨h0, h1, h2, h3, h4⟩ := hx; go_simp; try (with_reducible rfl)
    simp only [Act.put, List.setIfInBounds_toArray, List.set_cons_zero, List.set_cons_succ]
    refine anyL_one (i := 6) (atS (atS (atS (atS (atS (atS at0)))))) (by kernel_rfl) rfl (fun K hK => ?_)
    go_simp
    refine hK _ _ (.inr HSB) ?_
    try simp only [Act.put, List.setIfInBounds_toArray, List.set_cons_zero, List.set_cons_succ]
    refine anyL_one (i := 7) (atS (atS (atS (atS (atS (atS (atS at0))))))) (by kernel_rfl) rfl (fun K hK => ?_)
    refine wp_append_run (.tmp 33) (.tmp 35) 71 rfl rfl rfl HR6.out ?_
    refine hK _ _ (.inr HSC) ?_
    try simp only [Act.put, List.setIfInBounds_toArray, List.set_cons_zero, List.set_cons_succ]
    refine anyL_one (i := 8) (atS (atS (atS (atS (atS (atS (atS (atS at0)))))))) (by kernel_rfl) rfl (fun K hK => ?_)
    go_simp
    refine hK _ _ (.inr HSC) ?_
    try simp only [Act.put, List.setIfInBounds_toArray, List.set_cons_zero, List.set_cons_succ]
    refine anyL_one (i := 9) (atS (atS (atS (atS (atS (atS (atS (atS (atS at0))))))))) (by kernel_rfl) rfl (fun K hK => ?_)
    go_simp
    refine hK _ _ (.inr HSC) ?_
    try simp only [Act.put, List.setIfInBounds_toArray, List.set_cons_zero, List.set_cons_succ]
    refine anyL_one (i := 10) (atS (atS (atS (atS (atS (atS (atS (atS (atS (atS at0)))))))))) (by kernel_rfl) rfl (fun K hK => ?_)
    go_simp
    refine hK _ _ (.inl rfl) (anyL_done (by kernel_rfl) (NoPanic.normal ?_))
    try simp only [Act.put, List.setIfInBounds_toArray, List.set_cons_zero, List.set_cons_succ]
    clear HSA HSB HSC
    go_wp2
    go_ret
    exact ⟨rfl, ⟨_, HN7.out⟩, HKE.out, HBE.out⟩
set_option maxRecDepth 100000 in
theorem isFull_any (base b mb : Nat) (vt vs : Value) (L : List Tr) (n : Int) (W : World) (h : CpoN W base b mb vt vs L n) :
    Calls Try.prog 56 #[.pointer (some ⟨b, 0, none⟩)] W fun e W' => e = .returned (.bool (decide (400 < n ∨ 60 < L.length))) ∧ W' = W := by
  obtain ⟨av, cv, hva⟩ := h.trs.sl
  subst hva
  have c1 := h.blk.cell 1 (v := .slice av L.length cv) rfl
  have c3 := h.blk.cell 3 (v := .int .i64 n) rfl
  clear h
  generalize L.length = nl at *
  by_cases h4 : 400 < n
  · have hd : decide (400 < n ∨ 60 < nl) = true := decide_eq_true (.inl h4)
    rw [hd]
    clear hd
    go_enter Try.func56, Try.ntmps56
    go_wp2
    go_ret
    exact ⟨rfl, rfl⟩
  · by_cases h6 : 60 < nl
    · have hd : decide (400 < n ∨ 60 < nl) = true := decide_eq_true (.inr h6)
      have h6' : (60 : Int) < (nl : Int) := by omega
      rw [hd]
      clear hd h6
      go_enter Try.func56, Try.ntmps56
      go_wp2
      go_ret
      exact ⟨rfl, rfl⟩
    · have hd : decide (400 < n ∨ 60 < nl) = false := decide_eq_false (by omega)
      have h6' : ¬ (60 : Int) < (nl : Int) := by omega
      rw [hd]
      clear hd h6
      go_enter Try.func56, Try.ntmps56
      go_wp2
      go_ret
      exact ⟨rfl, rfl⟩
end Go.Proofs.Ythcfkiinjcbajaa.Wt
