/- compose.composer: the next state, with an arc for each hop. -/
import Derived.Test.YthcfkiinjcbajaaFb
import Derived.Deep.DeepCutAuto
namespace Go.Proofs.Ythcfkiinjcbajaa.Wt
open Go.ChangeShapes Go.WideShapes Go.ChangeAt Go.RowKit Go.Maps
open Go.Proofs.Ythcfkiinjcbajaa.Pl
set_option linter.unusedVariables false
set_option linter.unusedSimpArgs false
theorem CpoK.far {b : Nat} {W w w' : World} (h : CpoK b W w) (hs : w.heap.size ≤ w'.heap.size) (hh : ∀ k, k < W.heap.size → w'.heap[k]? = w.heap[k]?) : CpoK b W w' :=
  ⟨Nat.le_trans h.1 hs, fun k cs t hb h1 h2 => (h.2 k cs t hb h1 h2).keep (hh k hb.lt)⟩
section
variable {w w' W : World} {base b mb : Nat} {vt vs va : Value} {L : List Tr} {n fin : Int} {ar : List Ar}
theorem CpoN.grown (h : CpoN w base b mb vt vs L n) {B : Nat} {v : Value} {ar : List Ar} (ho : OwnArcs w B v ar) (hg : w.grownBy w' v.ownBlock) : CpoN w' base b mb vt vs L n :=
  ⟨h.blk.grown hg (own_ne ho h.blk (by decide)), h.tr.keep (hg.block _ h.tr.lt (h.tr.neRow ho)), World.ownsRow.kept h.trs hg (own_apart h.trs ho (by decide)), h.hb, h.hm⟩
theorem CpoN.setS (h : CpoN w base b mb vt vs L n) {k : Nat} {cs : Array Value} (hk : Blk w k cs 54) (o : Nat) (v : Value) : CpoN (w.setCell ⟨k, o, none⟩ v) base b mb vt vs L n := by
  have hne : b ≠ k := fun e => by
    subst e
    have h1 := h.blk
    unfold Blk at h1 hk
    rw [h1] at hk
    exact absurd hk (by simp)
  exact ⟨h.blk.setO _ _ hne, h.tr.keep (Below.heap_setCell w ⟨k, o, none⟩ v mb (h.tr.neBlk hk)), World.ownsRow.kept h.trs (gSet w k o v) (.inr (Ne.symm (own_ne h.trs hk (by decide)))), h.hb, h.hm⟩
theorem CpoN.setN (h : CpoN w base b mb vt vs L n) (k : Int) : CpoN (w.setCell ⟨b, 3, none⟩ (.int .i64 k)) base b mb vt vs L k :=
  ⟨h.blk.set 3 _, h.tr.keep (Below.heap_setCell w ⟨b, 3, none⟩ _ mb (Ne.symm h.ne)), World.ownsRow.kept h.trs (gSet w b 3 _) (.inr (Ne.symm (own_ne h.trs h.blk (by decide)))), h.hb, h.hm⟩
/-- While a state's hops are gone through: the state's box lies behind all that was there. -/
structure AddI (W w : World) (base b mb : Nat) (vt vs : Value) (L : List Tr) (n fin : Int) (va : Value) (ar : List Ar) : Prop where
  cpo : CpoN w base b mb vt vs L n
  keep : CpoK b W w
  below : Below base W w
  sb : Blk w W.heap.size #[.int .i64 fin, va] 54
  arcs : OwnArcs w W.heap.size va ar
  blt : b < W.heap.size
  base : base ≤ W.heap.size
theorem AddI.later (h : AddI W w base b mb vt vs L n fin va ar) (hb : Below w.heap.size w w') : AddI W w' base b mb vt vs L n fin va ar :=
  ⟨h.cpo.later hb, h.keep.trans (CpoK.of hb), h.below.trans (hb.mono h.below.size |> fun k => k.mono (Nat.le_trans h.base (Nat.le_refl _))), h.sb.below hb h.sb.lt, h.arcs.later hb, h.blt, h.base⟩
theorem AddI.num (h : AddI W w base b mb vt vs L n fin va ar) {vt' : Value} {L' : List Tr} (hc : CpoN w' base b mb vt' vs L' n) (hk : CpoK b w w') (hb : Below base w w') : AddI W w' base b mb vt' vs L' n fin va ar :=
  ⟨hc, h.keep.trans hk, h.below.trans hb, hk.2 _ _ _ h.sb (by have := h.blt; omega) (by decide), hk.row h.arcs (by decide) (own_ne h.arcs h.cpo.blk (by decide)), h.blt, h.base⟩
theorem AddI.setN (h : AddI W w base b mb vt vs L n fin va ar) (k : Int) : AddI W (w.setCell ⟨b, 3, none⟩ (.int .i64 k)) base b mb vt vs L k fin va ar :=
  ⟨h.cpo.setN k, h.keep.trans CpoK.set, h.below.setCell (p := ⟨b, 3, none⟩) h.cpo.hb _, h.sb.setO _ _ (by have := h.blt; show W.heap.size ≠ b; omega), World.ownsRow.kept h.arcs (gSet w b 3 _) (.inr (Ne.symm (own_ne h.arcs h.cpo.blk (by decide)))), h.blt, h.base⟩
/-- s.Arcs = append(s.Arcs, c). -/
theorem AddI.push (h : AddI W w base b mb vt vs L n fin va ar) (c : Ar) (hl : ar.length ≤ 100000) :
    ∃ a k q w', (Builtin.append_ #[52, 52] 52 #[va, .slice (some ⟨w.heap.size, 0, none⟩) 1 1]).run Try.prog (w.alloc (.cells #[.int .i64 c.1, .int .i64 c.2.1, .int .i64 c.2.2.1, .int .i64 c.2.2.2] 51)) = .ok (.slice a k q) w' ∧ Blk w' W.heap.size #[.int .i64 fin, va] 54 ∧ (w.alloc (.cells #[.int .i64 c.1, .int .i64 c.2.1, .int .i64 c.2.2.1, .int .i64 c.2.2.2] 51)).grownBy w' va.ownBlock ∧ AddI W (w'.setCell ⟨W.heap.size, 1, none⟩ (.slice a k q)) base b mb vt vs L n fin (.slice a k q) (ar ++ [c]) := by
  obtain ⟨i1, hi1, hy0, hy1, hy2⟩ := info_parts infoArc
  have hA := h.later ((Below.refl w.heap.size w).alloc (Nat.le_refl _) (.cells (encA c).toArray 51))
  have hz := h.keep.1
  obtain ⟨v4, w4, r4, ho4, hg4, hn4⟩ := run_append_spot (P := Try.prog) (w := w.alloc (.cells (encA c).toArray 51)) encA_len (by decide) encA_one 52 52 W.heap.size 51 i1 _ 32 Try.underlying52 hi1 hy0 hy1 hy2 rfl _ ar.length (ar.flatMap encA) hA.arcs _ [c] (oneRow (enc := encA) w c rfl 51) (by simp; unfold maxLen; omega) (by simp; omega) (by simp; omega)
  have hO : OwnArcs w4 W.heap.size v4 (ar ++ [c]) := by unfold OwnArcs; rw [List.length_append, List.flatMap_append]; exact ho4
  obtain ⟨a, q, hv⟩ := hO.sl
  subst hv
  have hS : Blk w4 W.heap.size #[.int .i64 fin, va] 54 := hA.sb.grown hg4 (own_ne hA.arcs hA.sb (by decide))
  have hK4 : CpoK b W w4 := hA.keep.far hg4.size (fun k hk => hg4.block k (by have := hA.keep.1; omega) (fun e => by have := (hA.arcs.lt k e.symm).1; omega))
  have hC4 := hA.cpo.grown hA.arcs hg4
  have hb := h.base
  refine ⟨a, _, q, w4, r4, hS, hg4, hC4.setS hS 1 _, hK4.far (by simp [World.setCell]) (fun k hk => Below.heap_setCell w4 ⟨W.heap.size, 1, none⟩ _ k (by show k ≠ W.heap.size; omega)), (hA.below.grown hg4 (by have := hA.keep.1; omega) (fun k hk => by have := (hA.arcs.lt k hk).1; omega)).setCell (p := ⟨W.heap.size, 1, none⟩) hb _, hS.set 1 _, World.ownsRow.kept hO (gSet w4 W.heap.size 1 _) (.inr (Ne.symm (own_ne hO hS (by decide)))), h.blt, h.base⟩
end
/-- Too many arcs or triples behind hop i. -/
def FulI (hs : List Hp) (L : List Tr) (n : Int) (i : Nat) : Prop := 400 < n + (i : Int) + 1 ∨ 60 < (cpL hs L (i + 1)).length
def HeldA5 (b : Nat) (va : Value) (k : Nat) (h0 h1 h2 h3 h4 h5 : Int) (w : World) : Prop := w.cell? ⟨b, 1, none⟩ = some va ∧ w.cell? ⟨k, 0, none⟩ = some (.int .i64 h0) ∧ w.cell? ⟨k, 1, none⟩ = some (.int .i64 h1) ∧ w.cell? ⟨k, 2, none⟩ = some (.int .i64 h2) ∧ w.cell? ⟨k, 3, none⟩ = some (.int .i64 h3) ∧ w.cell? ⟨k, 4, none⟩ = some (.int .i64 h4) ∧ w.cell? ⟨k, 5, none⟩ = some (.int .i64 h5)
theorem HeldA5.mk' {w : World} {b k : Nat} {va : Value} {fin h0 h1 h2 h3 h4 h5 : Int} (hb : Blk w b #[.int .i64 fin, va] 54) (hk : Blk w k #[.int .i64 h0, .int .i64 h1, .int .i64 h2, .int .i64 h3, .int .i64 h4, .int .i64 h5] 61) : HeldA5 b va k h0 h1 h2 h3 h4 h5 w := ⟨hb.cell 1 rfl, hk.cell 0 rfl, hk.cell 1 rfl, hk.cell 2 rfl, hk.cell 3 rfl, hk.cell 4 rfl, hk.cell 5 rfl⟩
def HeldA4 (b : Nat) (vs : Value) (k : Nat) (x : Int) (va : Value) (w : World) : Prop := w.cell? ⟨b, 2, none⟩ = some vs ∧ w.cell? ⟨k, 0, none⟩ = some (.int .i64 x) ∧ w.cell? ⟨k, 1, none⟩ = some va
/-- What add answers. -/
def AddRes (W : World) (base b mb : Nat) (L : List Tr) (S : List St) (n fin : Int) (hs : List Hp) (e : Ending) (W' : World) : Prop :=
  ∃ ec : Int, e = .returned (.int .i64 ec) ∧ Below base W W' ∧ ((ec = 5 ∧ ∃ i, i < hs.length ∧ FulI hs L n i) ∨ (ec = 0 ∧ (∀ i, i < hs.length → ¬ FulI hs L n i) ∧ ∃ vt vs, CpoN W' base b mb vt vs (cpL hs L hs.length) (n + (hs.length : Int)) ∧ OwnSts W' base vs (S ++ [(fin, cpA hs L hs.length)])))
set_option maxRecDepth 100000 in
set_option maxHeartbeats 6400000 in
theorem add_gen (W : World) (base b mb : Nat) (vt vs v : Value) (L : List Tr) (S : List St) (n fin : Int) (hs : List Hp) (h : CpoN W base b mb vt vs L n) (hS : OwnSts W base vs S) (hH : OwnH W base v hs) (hN : L.Nodup) (hL : L.length ≤ 60) (n0 : 0 ≤ n) (n4 : n ≤ 400) (hT : ∀ x ∈ hs, SmT x.2.2.2) (hl : hs.length ≤ 200000) (hSl : S.length ≤ 1000) (hbW : base ≤ W.heap.size) :
    Calls Try.prog 36 #[.pointer (some ⟨b, 0, none⟩), .int .i64 fin, v] W fun e W' => AddRes W base b mb L S n fin hs e W' := by
  have hA := (Below.refl W.heap.size W).alloc (Nat.le_refl _) (.cells #[.int .i64 fin, .slice none 0 0] 54)
  have HI : Hid (AddI W (W.alloc (.cells #[.int .i64 fin, .slice none 0 0] 54)) base b mb vt vs L n fin (.slice none 0 0) []) := ⟨h.later hA, CpoK.of hA, hA.mono hbW, Blk.made _ _ _, OwnArcs.nil _ _, h.blk.lt, hbW⟩
  have HSt := hidP hS
  have HBk := hidP h.blk
  have HH := hidP hH
  have HN := hidP hN
  have HT := hidP hT
  obtain ⟨ah, ch, hv⟩ := hH.sl
  subst hv
  obtain ⟨m, hm⟩ : ∃ m, m = hs.length := ⟨_, rfl⟩
  have HM := hidP hm
  rw [← hm] at hl HH ⊢
  have bl := h.blk.lt
  clear hA h hS hH hN hT hm
  have hnf : ∀ (x : Bool) (w : World), (Op.unary .not (.bool x)).run Try.prog w = .ok (.bool (!x)) w := fun _ _ => rfl
  go_enter Try.func36, Try.ntmps36
  go_wp2
  go_loopw [14] (fun i wi => ∃ (k : Nat) (vt' va : Value), k ≤ m ∧ i = .int .i64 k ∧ Hid (AddI W wi base b mb vt' vs (cpL hs L k) (n + (k : Int)) fin va (cpA hs L k)) ∧ Hid (∀ i, i < k → ¬ FulI hs L n i)) (fun i _ => m - (intOf i).toNat)
  case atStart => exact ⟨0, vt, _, Nat.zero_le _, rfl, by rw [cpL_zero, cpA_zero, show n + ((0 : Nat) : Int) = n by simp]; exact HI, fun i hi => absurd hi (by omega)⟩
  case round =>
    clear HI
    obtain ⟨k, vt5, va5, hk, rfl, hI, hF⟩ := hrel
    obtain ⟨w5, hw5⟩ : ∃ w5, w5 = wr := ⟨_, rfl⟩
    subst hw5
    have hlen : (cpL hs L k).length ≤ 60 ∧ n + (k : Int) ≤ 400 := by
      cases k with
      | zero => rw [cpL_zero]; exact ⟨hL, by simp; omega⟩
      | succ j =>
        have h9 := hF.out j (by omega)
        unfold FulI at h9
        exact ⟨by omega, by omega⟩
    obtain ⟨hLk, hnk⟩ := hlen
    by_cases hlt : k < m
    · have j0 : (0 : Int) ≤ (k : Int) := Int.natCast_nonneg _
      have j1 : (k : Int) < (m : Int) := by omega
      have hHi : OwnH w5 base (.slice ah m ch) hs := hI.out.keep.row HH.out (by decide) (own_ne HH.out HBk.out (by decide))
      obtain ⟨bh, oh, hah, hbh, q0, q1, q2, q3, q4, q5⟩ := hHi.cell (j := k) (by rw [← HM.out]; exact hlt)
      subst hah
      have hkl : k < hs.length := by rw [← HM.out]; exact hlt
      have hsm := HT.out (el hs k) (el_mem hkl)
      have HLS := hidP (cpL_succ (L := L) hkl)
      have HAS := hidP (cpA_succ (L := L) hkl)
      have HAL := hidP (cpA_len (L := L) (Nat.le_of_lt hkl))
      have HND := hidP (cpL_nodup (hs := hs) HN.out k)
      obtain ⟨x, hx⟩ : ∃ x, el hs k = x := ⟨_, rfl⟩
      rw [hx] at q0 q1 q2 q3 q4 q5 hsm HLS HAS
      clear hx hHi
      obtain ⟨h0, h1, h2, h3, h4, h5⟩ := x
      simp only [arcTr] at q0 q1 q2 q3 q4 q5 hsm HLS HAS
      obtain ⟨Lk, hLkE⟩ : ∃ Lk, cpL hs L k = Lk := ⟨_, rfl⟩
      obtain ⟨Ak, hAkE⟩ : ∃ Ak, cpA hs L k = Ak := ⟨_, rfl⟩
      obtain ⟨nk, hnkE⟩ : ∃ nk, n + (k : Int) = nk := ⟨_, rfl⟩
      rw [hLkE] at hI HLS HAS hLk HND
      rw [hAkE] at hI HAS HAL
      rw [hnkE] at hI hnk
      have HNK := hidP hnkE
      have nk0 : 0 ≤ nk := by omega
      have k4 : k ≤ 400 := by omega
      clear hLkE hAkE hnkE
      have hA := hidP (hI.out.later (((Below.refl w5.heap.size w5).alloc (Nat.le_refl _) (.cells #[.int .i64 h0, .int .i64 h1, .int .i64 h2, .int .i64 h3, .int .i64 h4, .int .i64 h5] 61)).drew))
      have hHB : Blk ((w5.alloc (.cells #[.int .i64 h0, .int .i64 h1, .int .i64 h2, .int .i64 h3, .int .i64 h4, .int .i64 h5] 61)).drew) w5.heap.size #[.int .i64 h0, .int .i64 h1, .int .i64 h2, .int .i64 h3, .int .i64 h4, .int .i64 h5] 61 := (Blk.made w5 #[.int .i64 h0, .int .i64 h1, .int .i64 h2, .int .i64 h3, .int .i64 h4, .int .i64 h5] 61).drew
      have HHB := hidP hHB
      have HCN := hidP (numberOf_any base b mb vt5 vs Lk nk h3 h4 h5 _ hA.out.cpo HND.out (by omega) hsm (Nat.le_trans hA.out.base hA.out.keep.1))
      have hsW : W.heap.size ≤ w5.heap.size := hI.out.keep.1
      have HS0 : HeldA5 W.heap.size va5 w5.heap.size h0 h1 h2 h3 h4 h5 ((w5.alloc (.cells #[.int .i64 h0, .int .i64 h1, .int .i64 h2, .int .i64 h3, .int .i64 h4, .int .i64 h5] 61)).drew) := HeldA5.mk' hA.out.sb hHB
      have hal : Ak.length ≤ 1000 := by rw [HAL.out]; omega
      have hwr : IntKind.i64.wrap (nk + 1) = nk + 1 := wrapI (by omega) (by omega)
      obtain ⟨ix, hix⟩ : ∃ ix : Int, (Lk.idxOf (h3, h4, h5) : Int) = ix := ⟨_, rfl⟩
      rw [hix] at HCN HAS
      clear hHB hix hsm
      go_wp2
      refine region_anyL (HeldA5 W.heap.size va5 w5.heap.size h0 h1 h2 h3 h4 h5) 16 (by kernel_rfl) ?_
      refine anyL_take (i := 0) (v := ?v0_1) at0 (by kernel_rfl) (by kernel_rfl) (by kernel_rfl) (by kernel_rfl) (fun _ _ _ h => h) rfl ?y0_1 HS0 ?r0_1
      case y0_1 => intro wx hx; obtain ⟨g0, g1, g2, g3, g4, g5, g6⟩ := hx; go_simp; try (with_reducible rfl)
      simp only [Act.put, List.setIfInBounds_toArray, List.set_cons_zero, List.set_cons_succ]
      refine anyL_take (i := 1) (v := ?v1_2) (atS at0) (by kernel_rfl) (by kernel_rfl) (by kernel_rfl) (by kernel_rfl) (fun _ _ _ h => h) rfl ?y1_2 HS0 ?r1_2
      case y1_2 => intro wx hx; obtain ⟨g0, g1, g2, g3, g4, g5, g6⟩ := hx; go_simp; try (with_reducible rfl)
      simp only [Act.put, List.setIfInBounds_toArray, List.set_cons_zero, List.set_cons_succ]
      refine anyL_take (i := 2) (v := ?v2_3) (atS (atS at0)) (by kernel_rfl) (by kernel_rfl) (by kernel_rfl) (by kernel_rfl) (fun _ _ _ h => h) rfl ?y2_3 HS0 ?r2_3
      case y2_3 => intro wx hx; obtain ⟨g0, g1, g2, g3, g4, g5, g6⟩ := hx; go_simp; try (with_reducible rfl)
      simp only [Act.put, List.setIfInBounds_toArray, List.set_cons_zero, List.set_cons_succ]
      refine anyL_take (i := 3) (v := ?v3_4) (atS (atS (atS at0))) (by kernel_rfl) (by kernel_rfl) (by kernel_rfl) (by kernel_rfl) (fun _ _ _ h => h) rfl ?y3_4 HS0 ?r3_4
      case y3_4 => intro wx hx; obtain ⟨g0, g1, g2, g3, g4, g5, g6⟩ := hx; go_simp; try (with_reducible rfl)
      simp only [Act.put, List.setIfInBounds_toArray, List.set_cons_zero, List.set_cons_succ]
      refine anyL_take (i := 4) (v := ?v4_5) (atS (atS (atS (atS at0)))) (by kernel_rfl) (by kernel_rfl) (by kernel_rfl) (by kernel_rfl) (fun _ _ _ h => h) rfl ?y4_5 HS0 ?r4_5
      case y4_5 => intro wx hx; obtain ⟨g0, g1, g2, g3, g4, g5, g6⟩ := hx; go_simp; try (with_reducible rfl)
      simp only [Act.put, List.setIfInBounds_toArray, List.set_cons_zero, List.set_cons_succ]
      refine anyL_take (i := 5) (v := ?v5_6) (atS (atS (atS (atS (atS at0))))) (by kernel_rfl) (by kernel_rfl) (by kernel_rfl) (by kernel_rfl) (fun _ _ _ h => h) rfl ?y5_6 HS0 ?r5_6
      case y5_6 => intro wx hx; obtain ⟨g0, g1, g2, g3, g4, g5, g6⟩ := hx; go_simp; try (with_reducible rfl)
      simp only [Act.put, List.setIfInBounds_toArray, List.set_cons_zero, List.set_cons_succ]
      refine anyL_take (i := 6) (v := ?v6_7) (atS (atS (atS (atS (atS (atS at0)))))) (by kernel_rfl) (by kernel_rfl) (by kernel_rfl) (by kernel_rfl) (fun _ _ _ h => h) rfl ?y6_7 HS0 ?r6_7
      case y6_7 => intro wx hx; obtain ⟨g0, g1, g2, g3, g4, g5, g6⟩ := hx; go_simp; try (with_reducible rfl)
      simp only [Act.put, List.setIfInBounds_toArray, List.set_cons_zero, List.set_cons_succ]
      refine anyL_take (i := 7) (v := ?v7_8) (atS (atS (atS (atS (atS (atS (atS at0))))))) (by kernel_rfl) (by kernel_rfl) (by kernel_rfl) (by kernel_rfl) (fun _ _ _ h => h) rfl ?y7_8 HS0 ?r7_8
      case y7_8 => intro wx hx; obtain ⟨g0, g1, g2, g3, g4, g5, g6⟩ := hx; go_simp; try (with_reducible rfl)
      simp only [Act.put, List.setIfInBounds_toArray, List.set_cons_zero, List.set_cons_succ]
      refine anyL_take (i := 8) (v := ?v8_9) (atS (atS (atS (atS (atS (atS (atS (atS at0)))))))) (by kernel_rfl) (by kernel_rfl) (by kernel_rfl) (by kernel_rfl) (fun _ _ _ h => h) rfl ?y8_9 HS0 ?r8_9
      case y8_9 => intro wx hx; obtain ⟨g0, g1, g2, g3, g4, g5, g6⟩ := hx; go_simp; try (with_reducible rfl)
      simp only [Act.put, List.setIfInBounds_toArray, List.set_cons_zero, List.set_cons_succ]
      refine anyL_take (i := 9) (v := ?v9_10) (atS (atS (atS (atS (atS (atS (atS (atS (atS at0))))))))) (by kernel_rfl) (by kernel_rfl) (by kernel_rfl) (by kernel_rfl) (fun _ _ _ h => h) rfl ?y9_10 HS0 ?r9_10
      case y9_10 => intro wx hx; obtain ⟨g0, g1, g2, g3, g4, g5, g6⟩ := hx; go_simp; try (with_reducible rfl)
      simp only [Act.put, List.setIfInBounds_toArray, List.set_cons_zero, List.set_cons_succ]
      refine anyL_take (i := 10) (v := ?v10_11) (atS (atS (atS (atS (atS (atS (atS (atS (atS (atS at0)))))))))) (by kernel_rfl) (by kernel_rfl) (by kernel_rfl) (by kernel_rfl) (fun _ _ _ h => h) rfl ?y10_11 HS0 ?r10_11
      case y10_11 => intro wx hx; obtain ⟨g0, g1, g2, g3, g4, g5, g6⟩ := hx; go_simp; try (with_reducible rfl)
      simp only [Act.put, List.setIfInBounds_toArray, List.set_cons_zero, List.set_cons_succ]
      refine anyL_one (i := 11) (atS (atS (atS (atS (atS (atS (atS (atS (atS (atS (atS at0))))))))))) (by kernel_rfl) rfl (fun K hK => ?_)
      go_simp
      with_reducible refine HCN.out.mono ?_
      rintro e w6 ⟨rfl, ⟨vt6, hc6⟩, hk6, hb6⟩
      have h6 := hA.out.num hc6 hk6 hb6
      have hh6 := hk6.2 _ _ _ HHB.out (by omega) (by decide)
      have HS6 : HeldA5 W.heap.size va5 w5.heap.size h0 h1 h2 h3 h4 h5 w6 := HeldA5.mk' h6.sb hh6
      have hB7 := (Below.refl w6.heap.size w6).alloc (Nat.le_refl _) (.cells #[.int .i64 h0, .int .i64 h1, .int .i64 h2, .int .i64 ix] 51)
      have HS7 : HeldA5 W.heap.size va5 w5.heap.size h0 h1 h2 h3 h4 h5 (w6.alloc (.cells #[.int .i64 h0, .int .i64 h1, .int .i64 h2, .int .i64 ix] 51)) := HeldA5.mk' (h6.sb.below hB7 h6.sb.lt) (hh6.below hB7 hh6.lt)
      obtain ⟨a8, n8, c8, w8, hr8, hs8, hg8, h8⟩ := h6.push (h0, h1, h2, ix) (by omega)
      have hh8 := (hh6.below hB7 hh6.lt).grown hg8 (own_ne (h6.arcs.later hB7) (hh6.below hB7 hh6.lt) (by decide))
      have HS8 : HeldA5 W.heap.size va5 w5.heap.size h0 h1 h2 h3 h4 h5 w8 := HeldA5.mk' hs8 hh8
      have e1 := hs8.cell 1 (v := va5) rfl
      have f1 := hs8.fz 1
      have HR8 := hidP hr8
      have H8 := hidP h8
      clear hc6 hk6 hb6 h6 hh6 hB7 hr8 hs8 hg8 h8 hh8 HCN
      refine hK _ _ (.inr HS6) ?_
      try simp only [Act.put, List.setIfInBounds_toArray, List.set_cons_zero, List.set_cons_succ]
      refine anyL_take (i := 12) (v := ?v12_12) (atS (atS (atS (atS (atS (atS (atS (atS (atS (atS (atS (atS at0)))))))))))) (by kernel_rfl) (by kernel_rfl) (by kernel_rfl) (by kernel_rfl) (fun _ _ _ h => h) rfl ?y12_12 HS6 ?r12_12
      case y12_12 => intro wx hx; obtain ⟨g0, g1, g2, g3, g4, g5, g6⟩ := hx; go_simp; try (with_reducible rfl)
      simp only [Act.put, List.setIfInBounds_toArray, List.set_cons_zero, List.set_cons_succ]
      refine anyL_one (i := 13) (atS (atS (atS (atS (atS (atS (atS (atS (atS (atS (atS (atS (atS at0))))))))))))) (by kernel_rfl) rfl (fun K hK => ?_)
      go_simp
      refine hK _ _ (.inr HS7) ?_
      try simp only [Act.put, List.setIfInBounds_toArray, List.set_cons_zero, List.set_cons_succ]
      refine anyL_one (i := 14) (atS (atS (atS (atS (atS (atS (atS (atS (atS (atS (atS (atS (atS (atS at0)))))))))))))) (by kernel_rfl) rfl (fun K hK => ?_)
      refine wp_append_run (.tmp 19) (.tmp 31) 52 rfl rfl rfl HR8.out ?_
      refine hK _ _ (.inr HS8) ?_
      try simp only [Act.put, List.setIfInBounds_toArray, List.set_cons_zero, List.set_cons_succ]
      refine anyL_take (i := 15) (v := ?v15_13) (atS (atS (atS (atS (atS (atS (atS (atS (atS (atS (atS (atS (atS (atS (atS at0))))))))))))))) (by kernel_rfl) (by kernel_rfl) (by kernel_rfl) (by kernel_rfl) (fun _ _ _ h => h) rfl ?y15_13 HS8 ?r15_13
      case y15_13 => intro wx hx; obtain ⟨g0, g1, g2, g3, g4, g5, g6⟩ := hx; go_simp; try (with_reducible rfl)
      simp only [Act.put, List.setIfInBounds_toArray, List.set_cons_zero, List.set_cons_succ]
      refine anyL_one (i := 16) (atS (atS (atS (atS (atS (atS (atS (atS (atS (atS (atS (atS (atS (atS (atS (atS at0)))))))))))))))) (by kernel_rfl) rfl (fun K hK => ?_)
      go_simp
      refine hK _ _ (.inl rfl) (anyL_done (by kernel_rfl) (NoPanic.normal ?_))
      try simp only [Act.put, List.setIfInBounds_toArray, List.set_cons_zero, List.set_cons_succ]
      clear HS0 HS6 HS7 HS8 HR8 e1 f1
      generalize w8.setCell ⟨W.heap.size, 1, none⟩ (.slice a8 n8 c8) = w9 at *
      have b3 := H8.out.cpo.blk.cell 3 (v := .int .i64 nk) rfl
      have bf := H8.out.cpo.blk.fz 3
      have H9 := hidP (H8.out.setN (nk + 1))
      have HFU := hidP (isFull_any base b mb vt6 vs _ (nk + 1) _ H9.out.cpo)
      by_cases hful : FulI hs L n k
      · have hd : decide (400 < nk + 1 ∨ 60 < (addQ Lk (h3, h4, h5)).length) = true := by
          apply decide_eq_true
          unfold FulI at hful
          rw [HLS.out, HNK.out] at hful
          exact hful
        rw [hd] at HFU
        have HFL := hidP hful
        clear hd hful
        go_wp2_with (first
          | (go_at_call 56; (with_reducible refine HFU.out.mono ?_); rintro e wq ⟨rfl, rfl⟩))
        go_ret
        exact ⟨5, rfl, H9.out.below, .inl ⟨rfl, k, by rw [← HM.out]; exact hlt, HFL.out⟩⟩
      · have hd : decide (400 < nk + 1 ∨ 60 < (addQ Lk (h3, h4, h5)).length) = false := by
          apply decide_eq_false
          unfold FulI at hful
          rw [HLS.out, HNK.out] at hful
          exact hful
        rw [hd] at HFU
        have HFL := hidP hful
        clear hd hful
        go_wp2_with (first
          | (go_at_call 56; (with_reducible refine HFU.out.mono ?_); rintro e wq ⟨rfl, rfl⟩))
        go_roundw
        case rel =>
          refine ⟨k + 1, vt6, .slice a8 n8 c8, by omega, by go_num, ?_, ?_⟩
          · rw [HLS.out, HAS.out, show n + ((k + 1 : Nat) : Int) = nk + 1 by rw [← HNK.out]; omega]
            exact H9
          · show ∀ i, i < k + 1 → ¬ FulI hs L n i
            intro i hi
            rcases Nat.lt_succ_iff_lt_or_eq.1 hi with g | rfl
            · exact hF.out i g
            · exact HFL.out
        case measure => simp [intOf]; omega
    · have hkm : k = m := by omega
      have hnl : ¬ (k : Int) < (m : Int) := by omega
      subst hkm
      clear hlt hk
      have hSW := hI.out.keep.sts HBk.out HSt.out
      have hD := (Below.refl w5.heap.size w5).drew
      have hD2 := ((Below.refl w5.heap.size w5).drew).alloc (Nat.le_refl _) (.cells #[.int .i64 fin, va5] 54)
      obtain ⟨v6, w6, hr6, ho6, hb6, hg6⟩ := run_pushG (W := w5.drew.alloc (.cells #[.int .i64 fin, va5] 54)) (w1 := w5.drew) (fin, cpA hs L k) S va5 vs base rfl rfl rfl rfl (hSW.laterB hD) (OwnArcs.mono (hI.out.arcs.later hD) hbW) (by omega) (Nat.le_trans hbW hI.out.keep.1)
      obtain ⟨a6, c6, hv6⟩ := ho6.sts.sl
      obtain ⟨n6, hn6⟩ : ∃ n6, (S ++ [(fin, cpA hs L k)]).length = n6 := ⟨_, rfl⟩
      rw [hn6] at hv6
      clear hn6
      subst hv6
      have hI2 := hI.out.later hD2
      obtain ⟨vv, z1, z2, z3⟩ := hSW.laterB hD2
      have zlt : ∀ q, vs.ownBlock = some q → q < W.heap.size := fun q hq => by
        obtain ⟨vv', y1, _⟩ := HSt.out
        exact (y1.lt q hq).2
      have hs6 : Blk w6 W.heap.size #[.int .i64 fin, va5] 54 := hI2.sb.grown hg6 (fun e => by have := zlt _ e.symm; omega)
      have hb6' : Blk w6 b #[.map (some mb), vt5, vs, .int .i64 (n + (k : Int))] 73 := hI2.cpo.blk.grown hg6 (own_ne z1 hI2.cpo.blk (by decide))
      have ht6 : TrM w6 mb (cpL hs L k) := hI2.cpo.tr.keep (hg6.block _ hI2.cpo.tr.lt (hI2.cpo.tr.neRow z1))
      have hr6' : OwnT w6 base vt5 (cpL hs L k) := World.ownsRow.kept hI2.cpo.trs hg6 (own_apart hI2.cpo.trs z1 (by decide))
      have HC7 : Hid (CpoN (w6.setCell ⟨b, 2, none⟩ (.slice a6 n6 c6)) base b mb vt5 (.slice a6 n6 c6) (cpL hs L k) (n + (k : Int))) := ⟨hb6'.set 2 _, ht6.keep (Below.heap_setCell w6 ⟨b, 2, none⟩ _ mb (ht6.neBlk hb6')), World.ownsRow.kept hr6' (gSet w6 b 2 _) (.inr (Ne.symm (own_ne hr6' hb6' (by decide)))), hI.out.cpo.hb, hI.out.cpo.hm⟩
      have HO7 : Hid (OwnSts (w6.setCell ⟨b, 2, none⟩ (.slice a6 n6 c6)) base (.slice a6 n6 c6) (S ++ [(fin, cpA hs L k)])) := (CpoK.set (b := b)).sts hb6' ho6
      have HB7 := hidP (((hI.out.below.trans ((Below.refl base w5).drew)).trans hb6).setCell (p := ⟨b, 2, none⟩) hI.out.cpo.hb (.slice a6 n6 c6))
      have HSA : HeldA4 b vs W.heap.size fin va5 w5.drew := ⟨hI.out.cpo.blk.cell 2 rfl, hI.out.sb.cell 0 rfl, hI.out.sb.cell 1 rfl⟩
      have HSB : HeldA4 b vs W.heap.size fin va5 (w5.drew.alloc (.cells #[.int .i64 fin, va5] 54)) := ⟨hI2.cpo.blk.cell 2 rfl, hI2.sb.cell 0 rfl, hI2.sb.cell 1 rfl⟩
      have HSC : HeldA4 b vs W.heap.size fin va5 w6 := ⟨hb6'.cell 2 rfl, hs6.cell 0 rfl, hs6.cell 1 rfl⟩
      have c6' := hb6'.cell 2 (v := vs) rfl
      have f6 := hb6'.fz 2
      have HR6 := hidP hr6
      have HNE : Hid (∀ i, i < hs.length → ¬ FulI hs L n i) := fun i hi => hF.out i (by rw [HM.out]; exact hi)
      clear hSW hD hD2 hr6 ho6 hb6 hg6 hI2 z1 z2 z3 zlt hs6 hb6' ht6 hr6' hI hF
      go_wp2
      refine region_anyL (HeldA4 b vs W.heap.size fin va5) 10 (by kernel_rfl) ?_
      refine anyL_take (i := 0) (v := ?v0_14) at0 (by kernel_rfl) (by kernel_rfl) (by kernel_rfl) (by kernel_rfl) (fun _ _ _ h => h) rfl ?y0_14 HSA ?r0_14
      case y0_14 => intro wx hx; obtain ⟨g0, g1, g2⟩ := hx; go_simp; try (with_reducible rfl)
      simp only [Act.put, List.setIfInBounds_toArray, List.set_cons_zero, List.set_cons_succ]
      refine anyL_take (i := 1) (v := ?v1_15) (atS at0) (by kernel_rfl) (by kernel_rfl) (by kernel_rfl) (by kernel_rfl) (fun _ _ _ h => h) rfl ?y1_15 HSA ?r1_15
      case y1_15 => intro wx hx; obtain ⟨g0, g1, g2⟩ := hx; go_simp; try (with_reducible rfl)
      simp only [Act.put, List.setIfInBounds_toArray, List.set_cons_zero, List.set_cons_succ]
      refine anyL_take (i := 2) (v := ?v2_16) (atS (atS at0)) (by kernel_rfl) (by kernel_rfl) (by kernel_rfl) (by kernel_rfl) (fun _ _ _ h => h) rfl ?y2_16 HSA ?r2_16
      case y2_16 => intro wx hx; obtain ⟨g0, g1, g2⟩ := hx; go_simp; try (with_reducible rfl)
      simp only [Act.put, List.setIfInBounds_toArray, List.set_cons_zero, List.set_cons_succ]
      refine anyL_take (i := 3) (v := ?v3_17) (atS (atS (atS at0))) (by kernel_rfl) (by kernel_rfl) (by kernel_rfl) (by kernel_rfl) (fun _ _ _ h => h) rfl ?y3_17 HSA ?r3_17
      case y3_17 => intro wx hx; obtain ⟨g0, g1, g2⟩ := hx; go_simp; try (with_reducible rfl)
      simp only [Act.put, List.setIfInBounds_toArray, List.set_cons_zero, List.set_cons_succ]
      refine anyL_take (i := 4) (v := ?v4_18) (atS (atS (atS (atS at0)))) (by kernel_rfl) (by kernel_rfl) (by kernel_rfl) (by kernel_rfl) (fun _ _ _ h => h) rfl ?y4_18 HSA ?r4_18
      case y4_18 => intro wx hx; obtain ⟨g0, g1, g2⟩ := hx; go_simp; try (with_reducible rfl)
      simp only [Act.put, List.setIfInBounds_toArray, List.set_cons_zero, List.set_cons_succ]
      refine anyL_take (i := 5) (v := ?v5_19) (atS (atS (atS (atS (atS at0))))) (by kernel_rfl) (by kernel_rfl) (by kernel_rfl) (by kernel_rfl) (fun _ _ _ h => h) rfl ?y5_19 HSA ?r5_19
      case y5_19 => intro wx hx; obtain ⟨g0, g1, g2⟩ := hx; go_simp; try (with_reducible rfl)
      simp only [Act.put, List.setIfInBounds_toArray, List.set_cons_zero, List.set_cons_succ]
      refine anyL_one (i := 6) (atS (atS (atS (atS (atS (atS at0)))))) (by kernel_rfl) rfl (fun K hK => ?_)
      go_simp
      refine hK _ _ (.inr HSB) ?_
      try simp only [Act.put, List.setIfInBounds_toArray, List.set_cons_zero, List.set_cons_succ]
      refine anyL_one (i := 7) (atS (atS (atS (atS (atS (atS (atS at0))))))) (by kernel_rfl) rfl (fun K hK => ?_)
      refine wp_append_run (.tmp 48) (.tmp 50) 22 rfl rfl rfl HR6.out ?_
      refine hK _ _ (.inr HSC) ?_
      try simp only [Act.put, List.setIfInBounds_toArray, List.set_cons_zero, List.set_cons_succ]
      refine anyL_one (i := 8) (atS (atS (atS (atS (atS (atS (atS (atS at0)))))))) (by kernel_rfl) rfl (fun K hK => ?_)
      go_simp
      refine hK _ _ (.inr HSC) ?_
      try simp only [Act.put, List.setIfInBounds_toArray, List.set_cons_zero, List.set_cons_succ]
      refine anyL_one (i := 9) (atS (atS (atS (atS (atS (atS (atS (atS (atS at0))))))))) (by kernel_rfl) rfl (fun K hK => ?_)
      go_simp
      refine hK _ _ (.inr HSC) ?_
      try simp only [Act.put, List.setIfInBounds_toArray, List.set_cons_zero, List.set_cons_succ]
      refine anyL_one (i := 10) (atS (atS (atS (atS (atS (atS (atS (atS (atS (atS at0)))))))))) (by kernel_rfl) rfl (fun K hK => ?_)
      go_simp
      refine hK _ _ (.inl rfl) (anyL_done (by kernel_rfl) (NoPanic.normal ?_))
      try simp only [Act.put, List.setIfInBounds_toArray, List.set_cons_zero, List.set_cons_succ]
      clear HSA HSB HSC
      go_wp2
      go_ret
      refine ⟨0, rfl, HB7.out, .inr ⟨rfl, HNE.out, vt5, .slice a6 n6 c6, ?_, ?_⟩⟩
      · rw [← HM.out]
        exact HC7.out
      · rw [← HM.out]
        exact HO7.out
theorem add_full (W : World) (base b mb : Nat) (vt vs v : Value) (L : List Tr) (S : List St) (n fin : Int) (hs : List Hp) (h : CpoN W base b mb vt vs L n) (hS : OwnSts W base vs S) (hH : OwnH W base v hs) (hN : L.Nodup) (hL : L.length ≤ 60) (n0 : 0 ≤ n) (n4 : n ≤ 400) (hT : ∀ x ∈ hs, SmT x.2.2.2) (hl : hs.length ≤ 200000) (hSl : S.length ≤ 1000) (hbW : base ≤ W.heap.size) (hf : ∃ i, i < hs.length ∧ FulI hs L n i) :
    Calls Try.prog 36 #[.pointer (some ⟨b, 0, none⟩), .int .i64 fin, v] W fun e W' => e = .returned (.int .i64 5) ∧ Below base W W' := by
  refine (add_gen W base b mb vt vs v L S n fin hs h hS hH hN hL n0 n4 hT hl hSl hbW).mono ?_
  rintro e W' ⟨ec, rfl, hB, ⟨rfl, _⟩ | ⟨rfl, h2, _⟩⟩
  · exact ⟨rfl, hB⟩
  · obtain ⟨i, hi, hfi⟩ := hf
    exact absurd hfi (h2 i hi)
theorem add_fine (W : World) (base b mb : Nat) (vt vs v : Value) (L : List Tr) (S : List St) (n fin : Int) (hs : List Hp) (h : CpoN W base b mb vt vs L n) (hS : OwnSts W base vs S) (hH : OwnH W base v hs) (hN : L.Nodup) (hL : L.length ≤ 60) (n0 : 0 ≤ n) (n4 : n ≤ 400) (hT : ∀ x ∈ hs, SmT x.2.2.2) (hl : hs.length ≤ 200000) (hSl : S.length ≤ 1000) (hbW : base ≤ W.heap.size) (hf : ¬ ∃ i, i < hs.length ∧ FulI hs L n i) :
    Calls Try.prog 36 #[.pointer (some ⟨b, 0, none⟩), .int .i64 fin, v] W fun e W' => e = .returned (.int .i64 0) ∧ Below base W W' ∧ ∃ vt vs, CpoN W' base b mb vt vs (cpL hs L hs.length) (n + (hs.length : Int)) ∧ OwnSts W' base vs (S ++ [(fin, cpA hs L hs.length)]) := by
  refine (add_gen W base b mb vt vs v L S n fin hs h hS hH hN hL n0 n4 hT hl hSl hbW).mono ?_
  rintro e W' ⟨ec, rfl, hB, ⟨rfl, h1⟩ | ⟨rfl, h2, h3⟩⟩
  · exact absurd h1 hf
  · exact ⟨rfl, hB, h3⟩
def HeldB2 (x y z : Int) (k : Nat) (w : World) : Prop := w.cell? ⟨k, 0, none⟩ = some (.int .i64 x) ∧ w.cell? ⟨k, 1, none⟩ = some (.int .i64 y) ∧ w.cell? ⟨k, 2, none⟩ = some (.int .i64 z)
set_option maxRecDepth 100000 in
set_option maxHeartbeats 3200000 in
/-- begin: one triple, which is the state 0. -/
theorem cpoBegin_any (W : World) (base b : Nat) (x0 x1 x2 : Int) (hB : Blk W b #[.map none, .slice none 0 0, .slice none 0 0, .int .i64 0] 73) (hb : base ≤ b) (hs : SmT (x0, x1, x2)) :
    Calls Try.prog 35 #[.pointer (some ⟨b, 0, none⟩), .agg #[.int .i64 x0, .int .i64 x1, .int .i64 x2]] W fun e W' => e = .returned (.tuple #[]) ∧ Below base W W' ∧ ∃ mb vt, CpoN W' base b mb vt (.slice none 0 0) [(x0, x1, x2)] 0 := by
  have hbl := hB.lt
  have hA1 := (Below.refl W.heap.size W).alloc (Nat.le_refl _) (.cells #[.int .i64 x0, .int .i64 x1, .int .i64 x2] 26)
  have k1 := Blk.made W #[.int .i64 x0, .int .i64 x1, .int .i64 x2] 26
  have hB1 := hB.below hA1 hbl
  obtain ⟨W1, hW1⟩ : ∃ W1, W1 = W.alloc (.cells #[.int .i64 x0, .int .i64 x1, .int .i64 x2] 26) := ⟨_, rfl⟩
  have s1 : W1.heap.size = W.heap.size + 1 := by rw [hW1]; simp
  rw [← hW1] at hA1 k1 hB1
  have HW1 := hidP hW1
  clear hW1
  have hmm : (Instr.makeMap 70 none).run Try.prog W1 = .ok (.map (some W1.heap.size)) (W1.alloc (.map #[] 0)) := by
    simp [Instr.makeMap, run_underlying Try.underlying70]
  have c0 := hB1.cell 0 (v := .map none) rfl
  have f0 := hB1.fz 0
  have hb1 := hB1.lt
  have hw1 := k1.lt
  have hnb : W.heap.size ≠ b := by omega
  have sz2 : (W1.setCell ⟨b, 0, none⟩ (.map (some W1.heap.size))).heap.size = W1.heap.size := by simp [World.setCell]
  have m2 := TrM.made (W1.setCell ⟨b, 0, none⟩ (.map (some W1.heap.size)))
  rw [sz2] at m2
  have hN3 : CpoN ((W1.setCell ⟨b, 0, none⟩ (.map (some W1.heap.size))).alloc (.map #[] 0)) base b W1.heap.size (.slice none 0 0) (.slice none 0 0) [] 0 := ⟨(hB1.set 0 _).alloc _, m2, World.ownsRow_nil _ _ _ _, hb, by omega⟩
  have hB3 : Below base W ((W1.setCell ⟨b, 0, none⟩ (.map (some W1.heap.size))).alloc (.map #[] 0)) := ((hA1.mono (by omega)).setCell (p := ⟨b, 0, none⟩) hb _).alloc (by rw [sz2]; omega) _
  have k3 := (k1.setO ⟨b, 0, none⟩ (.map (some W1.heap.size)) (by show W.heap.size ≠ b; omega)).alloc (.map #[] 0)
  have d0 := k3.cell 0 (v := .int .i64 x0) rfl
  have d1 := k3.cell 1 (v := .int .i64 x1) rfl
  have d2 := k3.cell 2 (v := .int .i64 x2) rfl
  have HC := hidP (numberOf_any base b W1.heap.size _ _ [] 0 x0 x1 x2 _ hN3 (by simp) (by simp) hs (by have h9 := hB3.size; omega))
  have HB3 := hidP hB3
  have HE : Hid (addQ [] (x0, x1, x2) = [(x0, x1, x2)]) := rfl
  clear hA1 hB hB1 m2 k1 k3 hN3 hB3 s1 sz2
  go_enter Try.func35, Try.ntmps35
  go_upto_region 1 with fail
  rw [← HW1.out]
  go_wp2_with (first
    | (go_at_call 55; (with_reducible refine HC.out.mono ?_); rintro e w5 ⟨rfl, ⟨vt5, h5⟩, hk5, hb5⟩; have H5 := hidP h5; have B5 := hidP hb5; clear h5 hk5 hb5))
  go_end0
  exact ⟨rfl, HB3.out.trans B5.out, W1.heap.size, vt5, HE.out ▸ H5.out⟩
end Go.Proofs.Ythcfkiinjcbajaa.Wt
