/- The program's builder of machines: arcs moved, a first state, an empty arc more. The program's builder of machines: all states of a machine behind those that are there. The program's builder of machines: ends that lead on, what is built, two machines checked. -/
import Derived.Test.YthcfkiinjcbajabJ16C
import Derived.Test.YthcfkiinjcbajabRn
import Derived.Test.YthcfkiinjcbajabJ16l
namespace Go.Proofs.Ythcfkiinjcbajab.Wt
open Go.ChangeShapes Go.WideShapes Go.ChangeAt Go.RowKit
open Go.Proofs.Ythcfkiinjcbajab.Pl
set_option linter.unusedVariables false
set_option linter.unusedSimpArgs false
theorem shiftedP_any (va : Value) (ar : List Ar) (d : Int) (w : World) (hA : Arcs w va ar) (hl : ar.length ≤ 400) (hd : 0 ≤ d ∧ d ≤ 1000) (hto : ∀ p ∈ ar, 0 ≤ p.2.2.2 ∧ p.2.2.2 ≤ 1000) :
    Calls Try.prog 43 #[va, .int .i64 d] w fun e w' => ∃ v', e = .returned v' ∧ OwnArcs w' w.heap.size v' (ar.map (shA d)) ∧ Below w.heap.size w w' := by
  obtain ⟨i0, hi0, hz0, hz1, hz2⟩ := info_parts infoArc
  obtain ⟨a2, cap2, rfl, hga⟩ := hA.get
  have HGA : Hid (∀ j, j < ar.length → ∃ b off, a2 = some ⟨b, off, none⟩ ∧ b < w.heap.size ∧ w.cell? ⟨b, off + j * 4, none⟩ = some (.int .i64 (el ar j).1) ∧ w.cell? ⟨b, off + j * 4 + 1, none⟩ = some (.int .i64 (el ar j).2.1) ∧ w.cell? ⟨b, off + j * 4 + 2, none⟩ = some (.int .i64 (el ar j).2.2.1) ∧ w.cell? ⟨b, off + j * 4 + 3, none⟩ = some (.int .i64 (el ar j).2.2.2)) := hga
  have HTO : Hid (∀ p ∈ ar, 0 ≤ p.2.2.2 ∧ p.2.2.2 ≤ 1000) := hto
  clear hA hga hto
  generalize hL : ar.length = L at *
  have HL : Hid (ar.length = L) := hL
  clear hL
  go_enter Try.func43, Try.ntmps43
  go_wp2
  go_loopw [5, 10] (fun s5 i wr => ∃ (j : Nat) (vr : Value), j ≤ L ∧ vr = s5 ∧ i = .int .i64 j ∧ Hid (wr.ownsRow w.heap.size 51 4 vr j (((ar.take j).map (shA d)).flatMap encA)) ∧ Hid (Below w.heap.size w wr)) (fun _ i _ => L - (intOf i).toNat)
  case atStart => exact ⟨0, _, Nat.zero_le _, rfl, rfl, World.ownsRow_nil _ _ _ _, Below.refl _ _⟩
  case round =>
    obtain ⟨j, vr, hj, rfl, rfl, hrw, hb⟩ := hrel
    by_cases hjL : j < L
    · obtain ⟨b3, off3, rfl, hb3l, e0, e1, e2, e3⟩ := HGA.out j hjL
      have e0 := (hb.out.cell (p := ⟨b3, off3 + j * 4, none⟩) hb3l).trans e0
      have e1 := (hb.out.cell (p := ⟨b3, off3 + j * 4 + 1, none⟩) hb3l).trans e1
      have e2 := (hb.out.cell (p := ⟨b3, off3 + j * 4 + 2, none⟩) hb3l).trans e2
      have e3 := (hb.out.cell (p := ⟨b3, off3 + j * 4 + 3, none⟩) hb3l).trans e3
      have HST : Hid ((ar.take (j + 1)).map (shA d) = (ar.take j).map (shA d) ++ [shA d (el ar j)]) := el_mapA d (by rw [HL.out]; exact hjL)
      have HLE : Hid (((ar.take j).map (shA d)).length = j) := by show _ = _; rw [List.length_map, List.length_take, HL.out]; omega
      have HT := hidP (HTO.out _ (el_mem (l := ar) (j := j) (by rw [HL.out]; exact hjL)))
      have hj0 : (0 : Int) ≤ (j : Int) := by omega
      have hj1 : (j : Int) < (L : Int) := by omega
      generalize (ar.take j).map (shA d) = tl at *
      generalize el ar j = p at *
      obtain ⟨x0, x1, x2, x3⟩ := p
      simp only at e0 e1 e2 e3
      have hx3 : 0 ≤ x3 ∧ x3 ≤ 1000 := HT.out
      have hw3 : IntKind.i64.wrap (x3 + d) = x3 + d := wrapI (by omega) (by omega)
      have HD : Hid ((wr.alloc (.cells #[.int .i64 x0, .int .i64 x1, .int .i64 x2, .int .i64 (x3 + d)] 51)).ownsRow w.heap.size 51 4 vr j (tl.flatMap encA)) := hrw.out.alloc _
      have HDB : Hid (Below w.heap.size w (wr.alloc (.cells #[.int .i64 x0, .int .i64 x1, .int .i64 x2, .int .i64 (x3 + d)] 51))) := hb.out.alloc hb.out.size _
      clear hrw
      go_wp2_with (first
        | (at_builtin; refine wpList_append_rows encA_len (by decide) encA_one rfl _ _ 43 rfl w.heap.size 51 i0 _ 32 Try.underlying43 hi0 hz0 hz1 hz2 rfl _ j (tl.flatMap encA) rfl (HD.out.alloc _) _ [(x0, x1, x2, x3 + d)] rfl (by have h9 := oneRow (enc := encA) (wr.alloc (.cells #[.int .i64 x0, .int .i64 x1, .int .i64 x2, .int .i64 (x3 + d)] 51)) (x0, x1, x2, x3 + d) rfl 51; simp only [World.size_alloc] at h9; exact h9) (by simp; unfold maxLen; omega) (by simp; omega) (by have := HDB.out.size; simp at this ⊢; omega) ?_; intro v4 w4 ho4 hg4; have HO4 := hidP ho4; have HB4 : Hid (Below w.heap.size w w4) := (HDB.out.alloc HDB.out.size _).grown hg4 (by have := HDB.out.size; simp at this ⊢; omega) (fun k hk => (HD.out.lt k hk).1); clear ho4 hg4))
      go_roundw
      case rel => exact ⟨j + 1, _, by omega, rfl, by go_num, by rw [HST.out, List.flatMap_append]; exact HO4.out, HB4⟩
      case measure => simp [intOf]; omega
    · have hnl : ¬ (j : Int) < (L : Int) := by omega
      have HO : Hid (OwnArcs wr w.heap.size vr (ar.map (shA d))) := by
        have h9 := hrw.out
        have h8 : j = ar.length := by rw [HL.out]; omega
        unfold Hid OwnArcs
        rw [List.length_map]
        rw [h8, List.take_length] at h9
        exact h9
      go_wp2
      go_ret
      exact ⟨_, rfl, HO.out, hb.out⟩
/-- b.begin(f). -/
theorem begin_any (b base : Nat) (v0 : Value) (z f : Int) (W : World) (h : Blk W b #[.int .i64 z, v0] 73) (hb : b < base) (hbW : base ≤ W.heap.size) (h1 : v0.oneCell' = true) :
    Calls Try.prog 26 #[.pointer (some ⟨b, 0, none⟩), .int .i64 f] W fun e W' => e = .returned (.tuple #[]) ∧ Bui W' 73 base b 0 [(f, [])] ∧ Below b W W' ∧ Kept (some b) W W' := by
  have HB := hidP h
  have hlt := h.lt
  have c0 := h.cell 0 (v := .int .i64 z) rfl
  have c1 := h.cell 1 (v := v0) rfl
  have g0 := h.fz 0
  have g1 := h.fz 1
  clear h
  go_enter Try.func26, Try.ntmps26
  go_wp2
  go_end0
  refine ⟨rfl, ⟨_, ((HB.out.set 0 _).set 1 _).alloc _, ?_⟩, ?_, ?_⟩
  · obtain ⟨W2, hW2⟩ : ∃ W2, (W.setCell ⟨b, 0, none⟩ (.int .i64 0)).setCell ⟨b, 1, none⟩ (.slice (some ⟨W.heap.size, 0, none⟩) 1 1) = W2 := ⟨_, rfl⟩
    have hs : W2.heap.size = W.heap.size := by rw [← hW2]; simp [World.setCell]
    rw [hW2, ← hs]
    refine ⟨[(f, .slice none 0 0)], ⟨rfl, .inr ⟨W2.heap.size, 1, #[.int .i64 f, .slice none 0 0], rfl, by omega, Blk.made _ _ _, Nat.le_refl _, by decide, rfl, rfl⟩⟩, rfl, fun j hj => ?_, fun i j hi hj hij => ?_⟩
    · obtain rfl : j = 0 := by simpa using hj
      exact ⟨rfl, World.ownsRow_nil _ _ _ _⟩
    · simp at hi hj
      omega
  · exact (((Below.refl b W).setCell (p := ⟨b, 0, none⟩) (Nat.le_refl _) _).setCell (p := ⟨b, 1, none⟩) (Nat.le_refl _) _).alloc (by simp [World.setCell]; omega) _
  · exact ((Kept.setM W b 0 _).trans (Kept.setM _ b 1 _)).trans ((Kept.of ((Below.refl _ _).alloc (Nat.le_refl _) _)).any _)
/-- A state with an empty arc more, if there is where to go. -/
def lnkS (t x : Int) (s : St) : St := (s.1, s.2 ++ if t = -1 then [] else [(0, 0, x, t)])
theorem set_same {l : List St} {q : Nat} (hq : q < l.length) {s : St} (h : s = el l q) : l.set q s = l := by
  refine el_ext (by simp) fun j hj => ?_
  rw [Pl.el_set (by simpa using hj)]
  split
  · rename_i e; rw [h, e]
  · rfl
def HeldL (b : Nat) (vs : Value) (g o nb : Nat) (va : Value) (y0 y1 y2 y3 : Int) (w : World) : Prop := w.cell? ⟨b, 1, none⟩ = some vs ∧ w.cell? ⟨g, o, none⟩ = some va ∧ w.cell? ⟨nb, 0, none⟩ = some (.int .i64 y0) ∧ w.cell? ⟨nb, 1, none⟩ = some (.int .i64 y1) ∧ w.cell? ⟨nb, 2, none⟩ = some (.int .i64 y2) ∧ w.cell? ⟨nb, 3, none⟩ = some (.int .i64 y3)
set_option maxRecDepth 100000 in
/-- b.link(q, t, x). -/
theorem link_any (b base q : Nat) (z t x : Int) (l : List St) (W : World) (h : Bui W 73 base b z l) (hb : b < base) (hbW : base ≤ W.heap.size) (hq : q < l.length) (hl : (el l q).2.length ≤ 100000) (hll : l.length ≤ 100000) :
    Calls Try.prog 28 #[.pointer (some ⟨b, 0, none⟩), .int .i64 q, .int .i64 t, .int .i64 x] W fun e W' => e = .returned (.tuple #[]) ∧ Bui W' 73 base b z (l.set q (lnkS t x (el l q))) ∧ Below b W W' ∧ Kept (some b) W W' := by
  by_cases ht : t = -1
  · have H := hidP h
    have hr : Hid (l.set q (lnkS t x (el l q)) = l) := set_same hq (by unfold lnkS; rw [if_pos ht]; simp)
    have ht' : (t == -1) = true := by simpa using ht
    clear h ht
    go_enter Try.func28, Try.ntmps28
    go_wp2
    refine bodyPost_ret (v := .tuple #[]) (by simp [results, Try.results28, go_sem]) rfl ?_
    refine ⟨rfl, ?_, Below.refl _ _, Kept.refl _ _⟩
    rw [hr.out]
    exact H.out
  · have ht' : (t == -1) = false := by simpa using ht
    have hr : Hid (lnkS t x (el l q) = ((el l q).1, (el l q).2 ++ [(0, 0, x, t)])) := by show _ = _; unfold lnkS; rw [if_neg ht]
    obtain ⟨v, h1, h2⟩ := h
    have hlt := h1.lt
    have hA : Below W.heap.size W (W.alloc (.cells #[.int .i64 0, .int .i64 0, .int .i64 x, .int .i64 t] 51)) := (Below.refl _ _).alloc (Nat.le_refl _) _
    have hnb := Blk.made W #[.int .i64 0, .int .i64 0, .int .i64 x, .int .i64 t] 51
    obtain ⟨W1, hW1⟩ : ∃ W1, W1 = W.alloc (.cells #[.int .i64 0, .int .i64 0, .int .i64 x, .int .i64 t] 51) := ⟨_, rfl⟩
    have hs1 : W1.heap.size = W.heap.size + 1 := by rw [hW1]; simp
    rw [← hW1] at hA hnb
    obtain ⟨g, cap, a4, c4, hv, hbg, hgl, hc, a5, c5, w4, hr4, hc4, hf4, hb4, ho4, hk4, hk5, hg4⟩ := (h2.later hA.drew).arcAt (by show base ≤ W1.heap.size; omega) q hq (0, 0, x, t) (by omega)
    subst hv
    have H1 := hidP (h1.below hA hlt)
    have N1 := hidP hnb
    have hgl' : g < W1.heap.size := hgl
    have n4 : Blk w4 W.heap.size #[.int .i64 0, .int .i64 0, .int .i64 x, .int .i64 t] 51 := by
      refine (hnb.drew.alloc _).grown hg4 (fun e => ?_)
      have hcW : W.cell? ⟨g, q * 2 + 1, none⟩ = some (.slice a4 (el l q).2.length c4) := by
        rcases h2.sl with ⟨a', c', e'⟩
        refine (hA.cell (p := ⟨g, q * 2 + 1, none⟩) ?_).symm.trans hc
        obtain ⟨vs, q1, _⟩ := h2
        exact (q1.lt g rfl).2
      have := (h2.rowLt hq hcW _ e.symm).2
      omega
    have HM4 : Hid (Blk w4 b #[.int .i64 z, .slice (some ⟨g, 0, none⟩) l.length cap] 73) := hk4.blk H1.out.drew (by simp) (by decide) (by decide)
    have m1 := H1.out.cell 1 (v := .slice (some ⟨g, 0, none⟩) l.length cap) rfl
    have q0 : (0 : Int) ≤ (q : Int) := by omega
    have q1 : (q : Int) < (l.length : Int) := by omega
    generalize el l q = s at *
    obtain ⟨s0, s1⟩ := s
    simp only at hc hr4 hc4 ho4 hk5 hr
    generalize s1.length = sn at *
    have HS : HeldL b (.slice (some ⟨g, 0, none⟩) l.length cap) g (q * 2 + 1) W.heap.size (.slice a4 sn c4) 0 0 x t W1.drew := ⟨m1, hc, N1.out.cell 0 rfl, N1.out.cell 1 rfl, N1.out.cell 2 rfl, N1.out.cell 3 rfl⟩
    have HSA : HeldL b (.slice (some ⟨g, 0, none⟩) l.length cap) g (q * 2 + 1) W.heap.size (.slice a4 sn c4) 0 0 x t (W1.drew.alloc (.cells #[.int .i64 0, .int .i64 0, .int .i64 x, .int .i64 t] 51)) := by
      have hx := N1.out.drew.alloc (.cells #[.int .i64 0, .int .i64 0, .int .i64 x, .int .i64 t] 51)
      exact ⟨(H1.out.drew.alloc _).cell 1 rfl, (((Below.refl W1.drew.heap.size W1.drew).alloc (Nat.le_refl _) _).cell (p := ⟨g, q * 2 + 1, none⟩) hgl).trans hc, hx.cell 0 rfl, hx.cell 1 rfl, hx.cell 2 rfl, hx.cell 3 rfl⟩
    have HS4 : HeldL b (.slice (some ⟨g, 0, none⟩) l.length cap) g (q * 2 + 1) W.heap.size (.slice a4 sn c4) 0 0 x t w4 := ⟨HM4.out.cell 1 rfl, hc4, n4.cell 0 rfl, n4.cell 1 rfl, n4.cell 2 rfl, n4.cell 3 rfl⟩
    have R4 := hidP hr4
    have HO4 := hidP ho4
    have HM5 : Hid (Blk (w4.setCell ⟨g, q * 2 + 1, none⟩ (.slice a5 (sn + 1) c5)) b #[.int .i64 z, .slice (some ⟨g, 0, none⟩) l.length cap] 73) := HM4.out.setO _ _ (by show b ≠ g; omega)
    have HW5 : Hid (Below b W (w4.setCell ⟨g, q * 2 + 1, none⟩ (.slice a5 (sn + 1) c5))) := ((hA.drew.mono (Nat.le_of_lt hlt)).trans (hb4.mono (Nat.le_of_lt hb))).setCell (p := ⟨g, q * 2 + 1, none⟩) (by show b ≤ g; omega) _
    have HK5 : Hid (Kept (some b) W (w4.setCell ⟨g, q * 2 + 1, none⟩ (.slice a5 (sn + 1) c5))) := (((Kept.of hA.drew).trans hk4).trans hk5).any _
    clear hr4 ho4 hk4 hk5 hb4 h1 h2 hg4 n4 hnb hA m1
    go_enter Try.func28, Try.ntmps28
    go_wp2
    rw [← hW1]
    clear hW1 hs1
    refine region_anyL (HeldL b (.slice (some ⟨g, 0, none⟩) l.length cap) g (q * 2 + 1) W.heap.size (.slice a4 sn c4) 0 0 x t) 20 (by kernel_rfl) ?_
    refine anyL_take (i := 0) (v := ?v0_1) at0 (by kernel_rfl) (by kernel_rfl) (by kernel_rfl) (by kernel_rfl) (fun _ _ _ h => h) rfl ?y0_1 HS ?r0_1
    case y0_1 => intro wx hx; obtain ⟨h1, h2, h3, h4, h5, h6⟩ := hx; go_simp; try (with_reducible rfl)
    simp only [Act.put, List.setIfInBounds_toArray, List.set_cons_zero, List.set_cons_succ]
    refine anyL_take (i := 1) (v := ?v1_2) (atS at0) (by kernel_rfl) (by kernel_rfl) (by kernel_rfl) (by kernel_rfl) (fun _ _ _ h => h) rfl ?y1_2 HS ?r1_2
    case y1_2 => intro wx hx; obtain ⟨h1, h2, h3, h4, h5, h6⟩ := hx; go_simp; try (with_reducible rfl)
    simp only [Act.put, List.setIfInBounds_toArray, List.set_cons_zero, List.set_cons_succ]
    refine anyL_take (i := 2) (v := ?v2_3) (atS (atS at0)) (by kernel_rfl) (by kernel_rfl) (by kernel_rfl) (by kernel_rfl) (fun _ _ _ h => h) rfl ?y2_3 HS ?r2_3
    case y2_3 => intro wx hx; obtain ⟨h1, h2, h3, h4, h5, h6⟩ := hx; go_simp; try (with_reducible rfl)
    simp only [Act.put, List.setIfInBounds_toArray, List.set_cons_zero, List.set_cons_succ]
    refine anyL_take (i := 3) (v := ?v3_4) (atS (atS (atS at0))) (by kernel_rfl) (by kernel_rfl) (by kernel_rfl) (by kernel_rfl) (fun _ _ _ h => h) rfl ?y3_4 HS ?r3_4
    case y3_4 => intro wx hx; obtain ⟨h1, h2, h3, h4, h5, h6⟩ := hx; go_simp; try (with_reducible rfl)
    simp only [Act.put, List.setIfInBounds_toArray, List.set_cons_zero, List.set_cons_succ]
    refine anyL_take (i := 4) (v := ?v4_5) (atS (atS (atS (atS at0)))) (by kernel_rfl) (by kernel_rfl) (by kernel_rfl) (by kernel_rfl) (fun _ _ _ h => h) rfl ?y4_5 HS ?r4_5
    case y4_5 => intro wx hx; obtain ⟨h1, h2, h3, h4, h5, h6⟩ := hx; go_simp; try (with_reducible rfl)
    simp only [Act.put, List.setIfInBounds_toArray, List.set_cons_zero, List.set_cons_succ]
    refine anyL_take (i := 5) (v := ?v5_6) (atS (atS (atS (atS (atS at0))))) (by kernel_rfl) (by kernel_rfl) (by kernel_rfl) (by kernel_rfl) (fun _ _ _ h => h) rfl ?y5_6 HS ?r5_6
    case y5_6 => intro wx hx; obtain ⟨h1, h2, h3, h4, h5, h6⟩ := hx; go_simp; try (with_reducible rfl)
    simp only [Act.put, List.setIfInBounds_toArray, List.set_cons_zero, List.set_cons_succ]
    refine anyL_take (i := 6) (v := ?v6_7) (atS (atS (atS (atS (atS (atS at0)))))) (by kernel_rfl) (by kernel_rfl) (by kernel_rfl) (by kernel_rfl) (fun _ _ _ h => h) rfl ?y6_7 HS ?r6_7
    case y6_7 => intro wx hx; obtain ⟨h1, h2, h3, h4, h5, h6⟩ := hx; go_simp; try (with_reducible rfl)
    simp only [Act.put, List.setIfInBounds_toArray, List.set_cons_zero, List.set_cons_succ]
    refine anyL_take (i := 7) (v := ?v7_8) (atS (atS (atS (atS (atS (atS (atS at0))))))) (by kernel_rfl) (by kernel_rfl) (by kernel_rfl) (by kernel_rfl) (fun _ _ _ h => h) rfl ?y7_8 HS ?r7_8
    case y7_8 => intro wx hx; obtain ⟨h1, h2, h3, h4, h5, h6⟩ := hx; go_simp; try (with_reducible rfl)
    simp only [Act.put, List.setIfInBounds_toArray, List.set_cons_zero, List.set_cons_succ]
    refine anyL_take (i := 8) (v := ?v8_9) (atS (atS (atS (atS (atS (atS (atS (atS at0)))))))) (by kernel_rfl) (by kernel_rfl) (by kernel_rfl) (by kernel_rfl) (fun _ _ _ h => h) rfl ?y8_9 HS ?r8_9
    case y8_9 => intro wx hx; obtain ⟨h1, h2, h3, h4, h5, h6⟩ := hx; go_simp; try (with_reducible rfl)
    simp only [Act.put, List.setIfInBounds_toArray, List.set_cons_zero, List.set_cons_succ]
    refine anyL_take (i := 9) (v := ?v9_10) (atS (atS (atS (atS (atS (atS (atS (atS (atS at0))))))))) (by kernel_rfl) (by kernel_rfl) (by kernel_rfl) (by kernel_rfl) (fun _ _ _ h => h) rfl ?y9_10 HS ?r9_10
    case y9_10 => intro wx hx; obtain ⟨h1, h2, h3, h4, h5, h6⟩ := hx; go_simp; try (with_reducible rfl)
    simp only [Act.put, List.setIfInBounds_toArray, List.set_cons_zero, List.set_cons_succ]
    refine anyL_take (i := 10) (v := ?v10_11) (atS (atS (atS (atS (atS (atS (atS (atS (atS (atS at0)))))))))) (by kernel_rfl) (by kernel_rfl) (by kernel_rfl) (by kernel_rfl) (fun _ _ _ h => h) rfl ?y10_11 HS ?r10_11
    case y10_11 => intro wx hx; obtain ⟨h1, h2, h3, h4, h5, h6⟩ := hx; go_simp; try (with_reducible rfl)
    simp only [Act.put, List.setIfInBounds_toArray, List.set_cons_zero, List.set_cons_succ]
    refine anyL_take (i := 11) (v := ?v11_12) (atS (atS (atS (atS (atS (atS (atS (atS (atS (atS (atS at0))))))))))) (by kernel_rfl) (by kernel_rfl) (by kernel_rfl) (by kernel_rfl) (fun _ _ _ h => h) rfl ?y11_12 HS ?r11_12
    case y11_12 => intro wx hx; obtain ⟨h1, h2, h3, h4, h5, h6⟩ := hx; go_simp; try (with_reducible rfl)
    simp only [Act.put, List.setIfInBounds_toArray, List.set_cons_zero, List.set_cons_succ]
    refine anyL_take (i := 12) (v := ?v12_13) (atS (atS (atS (atS (atS (atS (atS (atS (atS (atS (atS (atS at0)))))))))))) (by kernel_rfl) (by kernel_rfl) (by kernel_rfl) (by kernel_rfl) (fun _ _ _ h => h) rfl ?y12_13 HS ?r12_13
    case y12_13 => intro wx hx; obtain ⟨h1, h2, h3, h4, h5, h6⟩ := hx; go_simp; try (with_reducible rfl)
    simp only [Act.put, List.setIfInBounds_toArray, List.set_cons_zero, List.set_cons_succ]
    refine anyL_take (i := 13) (v := ?v13_14) (atS (atS (atS (atS (atS (atS (atS (atS (atS (atS (atS (atS (atS at0))))))))))))) (by kernel_rfl) (by kernel_rfl) (by kernel_rfl) (by kernel_rfl) (fun _ _ _ h => h) rfl ?y13_14 HS ?r13_14
    case y13_14 => intro wx hx; obtain ⟨h1, h2, h3, h4, h5, h6⟩ := hx; go_simp; try (with_reducible rfl)
    simp only [Act.put, List.setIfInBounds_toArray, List.set_cons_zero, List.set_cons_succ]
    refine anyL_take (i := 14) (v := ?v14_15) (atS (atS (atS (atS (atS (atS (atS (atS (atS (atS (atS (atS (atS (atS at0)))))))))))))) (by kernel_rfl) (by kernel_rfl) (by kernel_rfl) (by kernel_rfl) (fun _ _ _ h => h) rfl ?y14_15 HS ?r14_15
    case y14_15 => intro wx hx; obtain ⟨h1, h2, h3, h4, h5, h6⟩ := hx; go_simp; try (with_reducible rfl)
    simp only [Act.put, List.setIfInBounds_toArray, List.set_cons_zero, List.set_cons_succ]
    refine anyL_take (i := 15) (v := ?v15_16) (atS (atS (atS (atS (atS (atS (atS (atS (atS (atS (atS (atS (atS (atS (atS at0))))))))))))))) (by kernel_rfl) (by kernel_rfl) (by kernel_rfl) (by kernel_rfl) (fun _ _ _ h => h) rfl ?y15_16 HS ?r15_16
    case y15_16 => intro wx hx; obtain ⟨h1, h2, h3, h4, h5, h6⟩ := hx; go_simp; try (with_reducible rfl)
    simp only [Act.put, List.setIfInBounds_toArray, List.set_cons_zero, List.set_cons_succ]
    refine anyL_one (i := 16) (atS (atS (atS (atS (atS (atS (atS (atS (atS (atS (atS (atS (atS (atS (atS (atS at0)))))))))))))))) (by kernel_rfl) rfl (fun K hK => ?_)
    go_simp
    refine hK _ _ (.inr HSA) ?_
    try simp only [Act.put, List.setIfInBounds_toArray, List.set_cons_zero, List.set_cons_succ]
    refine anyL_one (i := 17) (atS (atS (atS (atS (atS (atS (atS (atS (atS (atS (atS (atS (atS (atS (atS (atS (atS at0))))))))))))))))) (by kernel_rfl) rfl (fun K hK => ?_)
    refine wp_append_run (.tmp 28) (.tmp 30) 43 rfl rfl rfl R4.out ?_
    refine hK _ _ (.inr HS4) ?_
    try simp only [Act.put, List.setIfInBounds_toArray, List.set_cons_zero, List.set_cons_succ]
    refine anyL_one (i := 18) (atS (atS (atS (atS (atS (atS (atS (atS (atS (atS (atS (atS (atS (atS (atS (atS (atS (atS at0)))))))))))))))))) (by kernel_rfl) rfl (fun K hK => ?_)
    go_simp
    refine hK _ _ (.inr HS4) ?_
    try simp only [Act.put, List.setIfInBounds_toArray, List.set_cons_zero, List.set_cons_succ]
    refine anyL_take (i := 19) (v := ?v19_17) (atS (atS (atS (atS (atS (atS (atS (atS (atS (atS (atS (atS (atS (atS (atS (atS (atS (atS (atS at0))))))))))))))))))) (by kernel_rfl) (by kernel_rfl) (by kernel_rfl) (by kernel_rfl) (fun _ _ _ h => h) rfl ?y19_17 HS4 ?r19_17
    case y19_17 => intro wx hx; obtain ⟨h1, h2, h3, h4, h5, h6⟩ := hx; go_simp; try (with_reducible rfl)
    simp only [Act.put, List.setIfInBounds_toArray, List.set_cons_zero, List.set_cons_succ]
    refine anyL_one (i := 20) (atS (atS (atS (atS (atS (atS (atS (atS (atS (atS (atS (atS (atS (atS (atS (atS (atS (atS (atS (atS at0)))))))))))))))))))) (by kernel_rfl) rfl (fun K hK => ?_)
    go_simp
    refine hK _ _ (.inl rfl) (anyL_done (by kernel_rfl) (NoPanic.normal ?_))
    try simp only [Act.put, List.setIfInBounds_toArray, List.set_cons_zero, List.set_cons_succ]
    clear HS HSA HS4 hc4 hf4
    go_wp2
    go_end0
    refine ⟨rfl, ⟨_, HM5.out, ?_⟩, HW5.out, HK5.out⟩
    rw [hr.out]
    exact HO4.out
end Go.Proofs.Ythcfkiinjcbajab.Wt
namespace Go.Proofs.Ythcfkiinjcbajab.Wt
open Go.ChangeShapes Go.WideShapes Go.ChangeAt Go.RowKit
open Go.Proofs.Ythcfkiinjcbajab.Pl
set_option linter.unusedVariables false
set_option linter.unusedSimpArgs false
def HeldD (b : Nat) (vs : Value) (sb : Nat) (f : Int) (va : Value) (w : World) : Prop := w.cell? ⟨b, 1, none⟩ = some vs ∧ w.cell? ⟨sb, 0, none⟩ = some (.int .i64 f) ∧ w.cell? ⟨sb, 1, none⟩ = some va
theorem HeldD.mk' {W : World} {b sb : Nat} {vs va : Value} {z f : Int} (h1 : Blk W b #[.int .i64 z, vs] 73) (h2 : Blk W sb #[.int .i64 f, va] 45) : HeldD b vs sb f va W := ⟨h1.cell 1 rfl, h2.cell 0 rfl, h2.cell 1 rfl⟩
set_option maxRecDepth 100000 in
set_option maxHeartbeats 1600000 in
/-- b.add(m). -/
theorem add_any (b base : Nat) (z : Int) (l : List St) (m : Mc) (v : Value) (w0 W : World) (h : Bui W 73 base b z l) (hb : b < base) (hbW : base ≤ W.heap.size) (hm : Mach w0 v m) (h0 : Below w0.heap.size w0 W) (h0b : w0.heap.size ≤ b) (hr : faultM m = 0) (hll : l.length ≤ 1000) :
    Calls Try.prog 27 #[.pointer (some ⟨b, 0, none⟩), v] W fun e W' => e = .returned (.int .i64 (if m.1 = -1 then -1 else m.1 + (l.length : Int))) ∧ Bui W' 73 base b z (l ++ m.2.map (fun s => shS (l.length : Int) s.1 [] s)) ∧ Below b W W' ∧ Kept (some b) W W' := by
  obtain ⟨zm, lm⟩ := m
  have HST := hidP (right_states hr)
  have h60 := (right_size hr).1
  obtain ⟨⟨hz1, hz2⟩, _⟩ := right_parts hr
  simp only at hz1 hz2 h60 HST
  obtain ⟨vs, rfl, hS⟩ := hm
  obtain ⟨a, cap, rfl, hc⟩ := hS.get
  have HC : Hid (∀ j, j < lm.length → ∃ b off va, a = some ⟨b, off, none⟩ ∧ b < w0.heap.size ∧ w0.cell? ⟨b, off + j * 2, none⟩ = some (.int .i64 (el lm j).1) ∧ w0.cell? ⟨b, off + j * 2 + 1, none⟩ = some va ∧ Arcs w0 va (el lm j).2) := hc
  have H0 := hidP h0
  obtain ⟨vl, h1, h2⟩ := h
  obtain ⟨al, cl, hvl⟩ := h2.sl
  subst hvl
  have HB := hidP h1
  have HO := hidP h2
  have hlt := h1.lt
  have c1 := h1.cell 1 (v := .slice al l.length cl) rfl
  have HT0 : Hid (l = l ++ (lm.take 0).map (fun s => shS (l.length : Int) s.1 [] s)) := by show _ = _; simp
  have HTS : Hid (∀ j, j < lm.length → l ++ (lm.take (j + 1)).map (fun s => shS (l.length : Int) s.1 [] s) = l ++ (lm.take j).map (fun s => shS (l.length : Int) s.1 [] s) ++ [((el lm j).1, (el lm j).2.map (shA (l.length : Int)))]) := fun j hj => by rw [take_el hj]; simp [shS]
  have HTL : Hid (∀ j, j ≤ lm.length → (l ++ (lm.take j).map (fun s => shS (l.length : Int) s.1 [] s)).length = l.length + j) := fun j hj => by simp; omega
  have HTN : Hid (l ++ (lm.take lm.length).map (fun s => shS (l.length : Int) s.1 [] s) = l ++ lm.map (fun s => shS (l.length : Int) s.1 [] s)) := by show _ = _; rw [List.take_length]
  obtain ⟨TT, hTT⟩ : ∃ TT : Nat → List St, ∀ j, l ++ (lm.take j).map (fun s => shS (l.length : Int) s.1 [] s) = TT j := ⟨_, fun _ => rfl⟩
  simp only [hTT] at HT0 HTS HTL HTN
  rw [← HTN.out]
  clear hTT hS hc h0 h1 h2
  generalize hn : lm.length = n at *
  have HN : Hid (lm.length = n) := hn
  generalize hk : l.length = k at *
  have HLK : Hid (l.length = k) := hk
  clear hn hk
  have hd0 : 0 ≤ (k : Int) ∧ (k : Int) ≤ 1000 := by omega
  have hB0 : Below b W (W.alloc (.cells #[.int .i64 zm, .slice a n cap] 28)) := (Below.refl b W).alloc (Nat.le_of_lt hlt) _
  have HX0 : Hid (Kept (some b) W (W.alloc (.cells #[.int .i64 zm, .slice a n cap] 28))) := (Kept.of ((Below.refl _ _).alloc (Nat.le_refl _) _)).any _
  have HBx := hidP hB0
  clear hB0
  go_enter Try.func27, Try.ntmps27
  go_wp2
  go_loopw [17] (fun i wr => ∃ (j : Nat) (vo : Value), j ≤ n ∧ i = .int .i64 j ∧ Hid (Blk wr W.heap.size #[.int .i64 zm, .slice a n cap] 28) ∧ Hid (Blk wr b #[.int .i64 z, vo] 73) ∧ Hid (OwnApt wr base vo (TT j)) ∧ Hid (Below b W wr) ∧ Hid (Kept (some b) W wr)) (fun i _ => n - (intOf i).toNat)
  case atStart => exact ⟨0, _, Nat.zero_le _, rfl, Blk.made W _ _, HB.out.alloc _, by rw [← HT0.out]; exact HO.out.later ((Below.refl _ _).alloc (Nat.le_refl _) _), HBx, HX0⟩
  case round =>
    obtain ⟨j, vo, hj, rfl, hbx, hbb, ho, hbl, hkp⟩ := hrel
    have hsr := hbl.out.size
    have HBw := hidP (H0.out.trans (hbl.out.mono h0b))
    by_cases hjn : j < n
    · have hj0 : (0 : Int) ≤ (j : Int) := by omega
      have hj1 : (j : Int) < (n : Int) := by omega
      obtain ⟨b3, off, va, rfl, hb3, y0, y1, gA⟩ := HC.out j hjn
      obtain ⟨hfin, hal, hto⟩ := HST.out j hjn
      have HTi := hidP (HTS.out j hjn)
      have HLn := hidP (HTL.out j hj)
      have x0 := (HBw.out.cell (p := ⟨b3, off + j * 2, none⟩) hb3).trans y0
      have x1 := (HBw.out.cell (p := ⟨b3, off + j * 2 + 1, none⟩) hb3).trans y1
      obtain ⟨a2, cap2, hva, _⟩ := gA.get
      obtain ⟨vo', hvo'⟩ : ∃ vo', vo = vo' := ⟨_, rfl⟩
      obtain ⟨av, cv, hv⟩ := ho.out.sl
      rw [HLn.out] at hv
      subst hv
      clear hvo'
      have HSH : Hid (∀ W2, Below w0.heap.size w0 W2 → Calls Try.prog 43 #[va, .int .i64 (k : Int)] W2 fun e w' => ∃ v', e = .returned v' ∧ OwnArcs w' W2.heap.size v' ((el lm j).2.map (shA (k : Int))) ∧ Below W2.heap.size W2 w') := fun W2 hW => shiftedP_any va (el lm j).2 (k : Int) W2 (gA.later hW (Nat.le_refl _)) hal hd0 hto
      subst hva
      clear gA hto hfin y0 y1
      generalize (el lm j).1 = fin at *
      generalize (el lm j).2.map (shA (k : Int)) = NL at *
      generalize (el lm j).2.length = an at *
      generalize TT j = Lst at *
      have hA : Below wr.heap.size wr (wr.alloc (.cells #[.int .i64 fin, .slice a2 an cap2] 45)) := (Below.refl _ _).alloc (Nat.le_refl _) _
      have hS1 := Blk.made wr #[.int .i64 fin, .slice a2 an cap2] 45
      obtain ⟨W1, hW1⟩ : ∃ W1, W1 = wr.alloc (.cells #[.int .i64 fin, .slice a2 an cap2] 45) := ⟨_, rfl⟩
      have hs1 : W1.heap.size = wr.heap.size + 1 := by rw [hW1]; simp
      rw [← hW1] at hA hS1
      have HA := hidP hA
      have hB1 := hbb.out.below hA hbb.out.lt
      have hO1 : OwnApt W1.drew base (.slice av (k + j) cv) Lst := ho.out.later hA.drew
      have HSD := HeldD.mk' hB1.drew hS1.drew
      have HS1 := hidP hS1
      have HB1 := hidP hB1
      have HO1 := hidP hO1
      clear hA hS1 hB1 hO1
      go_wp2
      rw [← hW1]
      have HLT : Hid (W1.heap.size = wr.heap.size + 1) := hs1
      clear hW1 hs1
      refine region_anyL (HeldD b (.slice av (k + j) cv) wr.heap.size fin (.slice a2 an cap2)) 18 (by kernel_rfl) ?_
      refine anyL_take (i := 0) (v := ?v0_18) at0 (by kernel_rfl) (by kernel_rfl) (by kernel_rfl) (by kernel_rfl) (fun _ _ _ h => h) rfl ?y0_18 HSD ?r0_18
      case y0_18 => intro wx hx; obtain ⟨h1, h2, h3⟩ := hx; go_simp; try (with_reducible rfl)
      simp only [Act.put, List.setIfInBounds_toArray, List.set_cons_zero, List.set_cons_succ]
      refine anyL_take (i := 1) (v := ?v1_19) (atS at0) (by kernel_rfl) (by kernel_rfl) (by kernel_rfl) (by kernel_rfl) (fun _ _ _ h => h) rfl ?y1_19 HSD ?r1_19
      case y1_19 => intro wx hx; obtain ⟨h1, h2, h3⟩ := hx; go_simp; try (with_reducible rfl)
      simp only [Act.put, List.setIfInBounds_toArray, List.set_cons_zero, List.set_cons_succ]
      refine anyL_take (i := 2) (v := ?v2_20) (atS (atS at0)) (by kernel_rfl) (by kernel_rfl) (by kernel_rfl) (by kernel_rfl) (fun _ _ _ h => h) rfl ?y2_20 HSD ?r2_20
      case y2_20 => intro wx hx; obtain ⟨h1, h2, h3⟩ := hx; go_simp; try (with_reducible rfl)
      simp only [Act.put, List.setIfInBounds_toArray, List.set_cons_zero, List.set_cons_succ]
      refine anyL_take (i := 3) (v := ?v3_21) (atS (atS (atS at0))) (by kernel_rfl) (by kernel_rfl) (by kernel_rfl) (by kernel_rfl) (fun _ _ _ h => h) rfl ?y3_21 HSD ?r3_21
      case y3_21 => intro wx hx; obtain ⟨h1, h2, h3⟩ := hx; go_simp; try (with_reducible rfl)
      simp only [Act.put, List.setIfInBounds_toArray, List.set_cons_zero, List.set_cons_succ]
      refine anyL_take (i := 4) (v := ?v4_22) (atS (atS (atS (atS at0)))) (by kernel_rfl) (by kernel_rfl) (by kernel_rfl) (by kernel_rfl) (fun _ _ _ h => h) rfl ?y4_22 HSD ?r4_22
      case y4_22 => intro wx hx; obtain ⟨h1, h2, h3⟩ := hx; go_simp; try (with_reducible rfl)
      simp only [Act.put, List.setIfInBounds_toArray, List.set_cons_zero, List.set_cons_succ]
      refine anyL_take (i := 5) (v := ?v5_23) (atS (atS (atS (atS (atS at0))))) (by kernel_rfl) (by kernel_rfl) (by kernel_rfl) (by kernel_rfl) (fun _ _ _ h => h) rfl ?y5_23 HSD ?r5_23
      case y5_23 => intro wx hx; obtain ⟨h1, h2, h3⟩ := hx; go_simp; try (with_reducible rfl)
      simp only [Act.put, List.setIfInBounds_toArray, List.set_cons_zero, List.set_cons_succ]
      refine anyL_take (i := 6) (v := ?v6_24) (atS (atS (atS (atS (atS (atS at0)))))) (by kernel_rfl) (by kernel_rfl) (by kernel_rfl) (by kernel_rfl) (fun _ _ _ h => h) rfl ?y6_24 HSD ?r6_24
      case y6_24 => intro wx hx; obtain ⟨h1, h2, h3⟩ := hx; go_simp; try (with_reducible rfl)
      simp only [Act.put, List.setIfInBounds_toArray, List.set_cons_zero, List.set_cons_succ]
      refine anyL_take (i := 7) (v := ?v7_25) (atS (atS (atS (atS (atS (atS (atS at0))))))) (by kernel_rfl) (by kernel_rfl) (by kernel_rfl) (by kernel_rfl) (fun _ _ _ h => h) rfl ?y7_25 HSD ?r7_25
      case y7_25 => intro wx hx; obtain ⟨h1, h2, h3⟩ := hx; go_simp; try (with_reducible rfl)
      simp only [Act.put, List.setIfInBounds_toArray, List.set_cons_zero, List.set_cons_succ]
      refine anyL_take (i := 8) (v := ?v8_26) (atS (atS (atS (atS (atS (atS (atS (atS at0)))))))) (by kernel_rfl) (by kernel_rfl) (by kernel_rfl) (by kernel_rfl) (fun _ _ _ h => h) rfl ?y8_26 HSD ?r8_26
      case y8_26 => intro wx hx; obtain ⟨h1, h2, h3⟩ := hx; go_simp; try (with_reducible rfl)
      simp only [Act.put, List.setIfInBounds_toArray, List.set_cons_zero, List.set_cons_succ]
      refine anyL_take (i := 9) (v := ?v9_27) (atS (atS (atS (atS (atS (atS (atS (atS (atS at0))))))))) (by kernel_rfl) (by kernel_rfl) (by kernel_rfl) (by kernel_rfl) (fun _ _ _ h => h) rfl ?y9_27 HSD ?r9_27
      case y9_27 => intro wx hx; obtain ⟨h1, h2, h3⟩ := hx; go_simp; try (with_reducible rfl)
      simp only [Act.put, List.setIfInBounds_toArray, List.set_cons_zero, List.set_cons_succ]
      refine anyL_take (i := 10) (v := ?v10_28) (atS (atS (atS (atS (atS (atS (atS (atS (atS (atS at0)))))))))) (by kernel_rfl) (by kernel_rfl) (by kernel_rfl) (by kernel_rfl) (fun _ _ _ h => h) rfl ?y10_28 HSD ?r10_28
      case y10_28 => intro wx hx; obtain ⟨h1, h2, h3⟩ := hx; go_simp; try (with_reducible rfl)
      simp only [Act.put, List.setIfInBounds_toArray, List.set_cons_zero, List.set_cons_succ]
      refine anyL_one (i := 11) (atS (atS (atS (atS (atS (atS (atS (atS (atS (atS (atS at0))))))))))) (by kernel_rfl) rfl (fun K hK => ?_)
      go_simp
      with_reducible refine (HSH.out _ (HBw.out.trans (HA.out.drew.mono (by have := HBw.out.size; omega)))).mono ?_
      rintro e1 w5 ⟨v5, rfl, ho5, hb5⟩
      have hs5 := hb5.size
      obtain ⟨a5, c5, hv5⟩ := ho5.sl
      subst hv5
      have B5 := HB1.out.drew.below hb5 HB1.out.lt
      have S5 := HS1.out.drew.below hb5 HS1.out.lt
      obtain ⟨a6, c6, w6, hr6, ho6, hb6, hk6, hg6⟩ := HO1.out.pushA hb5 ho5 fin (by have := HLn.out; omega) (by show base ≤ W1.heap.size; have := HLT.out; omega)
      rw [HLn.out] at hr6 ho6
      have hlo := ho.out.lt
      have B6 : Blk w6 b #[.int .i64 z, .slice av (k + j) cv] 73 := hk6.blk B5 (by simp) (by decide) (by decide)
      have S6 : Blk w6 wr.heap.size #[.int .i64 fin, .slice a2 an cap2] 45 := (S5.alloc _).grown hg6 (fun e => by have := (hlo _ e.symm).2; omega)
      have HSE := HeldD.mk' B5 S5
      have HSF := HeldD.mk' (W := w5.alloc (.cells #[.int .i64 fin, .slice a5 NL.length c5] 45)) (B5.alloc _) (S5.alloc _)
      have HSG := HeldD.mk' B6 S6
      have R6 := hidP hr6
      have f6 := B6.fz 1
      have c6' := B6.cell 1 (v := .slice av (k + j) cv) rfl
      have HO7 : Hid (OwnApt (w6.setCell ⟨b, 1, none⟩ (.slice a6 (k + j + 1) c6)) base (.slice a6 (k + j + 1) c6) (Lst ++ [(fin, NL)])) := ho6.setCell (a := ⟨b, 1, none⟩) hb _
      have HB7 : Hid (Blk (w6.setCell ⟨b, 1, none⟩ (.slice a6 (k + j + 1) c6)) b #[.int .i64 z, .slice a6 (k + j + 1) c6] 73) := B6.set 1 _
      have hkA : Kept none wr w6 := ((Kept.of HA.out.drew).trans (Kept.of hb5)).trans hk6
      have hBA : Below b wr w6 := ((HA.out.drew.mono (Nat.le_of_lt hbb.out.lt)).trans (hb5.mono (by show b ≤ W1.heap.size; have := HLT.out; have := hbb.out.lt; omega))).trans (hb6.mono (Nat.le_of_lt hb))
      have HX7 : Hid (Blk (w6.setCell ⟨b, 1, none⟩ (.slice a6 (k + j + 1) c6)) W.heap.size #[.int .i64 zm, .slice (some ⟨b3, off, none⟩) n cap] 28) := (hkA.blk hbx.out (by simp) (by decide) (by decide)).setO ⟨b, 1, none⟩ _ (by show W.heap.size ≠ b; omega)
      have HL7 : Hid (Below b W (w6.setCell ⟨b, 1, none⟩ (.slice a6 (k + j + 1) c6))) := (hbl.out.trans hBA).setCell (p := ⟨b, 1, none⟩) (Nat.le_refl _) _
      have HK7 : Hid (Kept (some b) W (w6.setCell ⟨b, 1, none⟩ (.slice a6 (k + j + 1) c6))) := (hkp.out.trans (hkA.any _)).trans (Kept.setM w6 b 1 _)
      clear hr6 ho6 hb6 hk6 hg6 B5 S5 B6 S6 hkA hBA ho5 hb5 hlo
      refine hK _ _ (.inr HSE) ?_
      try simp only [Act.put, List.setIfInBounds_toArray, List.set_cons_zero, List.set_cons_succ]
      refine anyL_one (i := 12) (atS (atS (atS (atS (atS (atS (atS (atS (atS (atS (atS (atS at0)))))))))))) (by kernel_rfl) rfl (fun K hK => ?_)
      go_simp
      refine hK _ _ (.inr HSE) ?_
      try simp only [Act.put, List.setIfInBounds_toArray, List.set_cons_zero, List.set_cons_succ]
      refine anyL_one (i := 13) (atS (atS (atS (atS (atS (atS (atS (atS (atS (atS (atS (atS (atS at0))))))))))))) (by kernel_rfl) rfl (fun K hK => ?_)
      go_simp
      refine hK _ _ (.inr HSF) ?_
      try simp only [Act.put, List.setIfInBounds_toArray, List.set_cons_zero, List.set_cons_succ]
      refine anyL_one (i := 14) (atS (atS (atS (atS (atS (atS (atS (atS (atS (atS (atS (atS (atS (atS at0)))))))))))))) (by kernel_rfl) rfl (fun K hK => ?_)
      refine wp_append_run (.tmp 26) (.tmp 34) 26 rfl rfl rfl R6.out ?_
      refine hK _ _ (.inr HSG) ?_
      try simp only [Act.put, List.setIfInBounds_toArray, List.set_cons_zero, List.set_cons_succ]
      refine anyL_one (i := 15) (atS (atS (atS (atS (atS (atS (atS (atS (atS (atS (atS (atS (atS (atS (atS at0))))))))))))))) (by kernel_rfl) rfl (fun K hK => ?_)
      go_simp
      refine hK _ _ (.inr HSG) ?_
      try simp only [Act.put, List.setIfInBounds_toArray, List.set_cons_zero, List.set_cons_succ]
      refine anyL_one (i := 16) (atS (atS (atS (atS (atS (atS (atS (atS (atS (atS (atS (atS (atS (atS (atS (atS at0)))))))))))))))) (by kernel_rfl) rfl (fun K hK => ?_)
      go_simp
      refine hK _ _ (.inr HSG) ?_
      try simp only [Act.put, List.setIfInBounds_toArray, List.set_cons_zero, List.set_cons_succ]
      refine anyL_one (i := 17) (atS (atS (atS (atS (atS (atS (atS (atS (atS (atS (atS (atS (atS (atS (atS (atS (atS at0))))))))))))))))) (by kernel_rfl) rfl (fun K hK => ?_)
      go_simp
      refine hK _ _ (.inr HSG) ?_
      try simp only [Act.put, List.setIfInBounds_toArray, List.set_cons_zero, List.set_cons_succ]
      refine anyL_one (i := 18) (atS (atS (atS (atS (atS (atS (atS (atS (atS (atS (atS (atS (atS (atS (atS (atS (atS (atS at0)))))))))))))))))) (by kernel_rfl) rfl (fun K hK => ?_)
      go_simp
      refine hK _ _ (.inl rfl) (anyL_done (by kernel_rfl) (NoPanic.normal ?_))
      try simp only [Act.put, List.setIfInBounds_toArray, List.set_cons_zero, List.set_cons_succ]
      clear HSD HSE HSF HSG f6 c6'
      go_wp2
      go_roundw
      case rel => exact ⟨j + 1, _, by omega, by go_num, HX7, HB7, by rw [HTi.out]; exact HO7, HL7, HK7⟩
      case measure => simp [intOf]; omega
    · have hnj : ¬ (j : Int) < (n : Int) := by omega
      obtain rfl : j = n := by omega
      have d0 := hbx.out.cell 0 (v := .int .i64 zm) rfl
      by_cases hz : zm = -1
      · have hz' : (zm == -1) = true := by simpa using hz
        have HR : Hid ((if zm = -1 then (-1 : Int) else zm + (k : Int)) = -1) := if_pos hz
        go_wp2
        go_ret
        exact ⟨by first | rfl | (rw [HR.out]; rfl), ⟨_, hbb.out, ho.out⟩, hbl.out, hkp.out⟩
      · have hz' : (zm == -1) = false := by simpa using hz
        have HR : Hid ((if zm = -1 then (-1 : Int) else zm + (k : Int)) = zm + (k : Int)) := if_neg hz
        have hwz : IntKind.i64.wrap (zm + (k : Int)) = zm + (k : Int) := wrapI (by omega) (by omega)
        go_wp2
        go_ret
        exact ⟨by first | rfl | (rw [HR.out]; rfl), ⟨_, hbb.out, ho.out⟩, hbl.out, hkp.out⟩
end Go.Proofs.Ythcfkiinjcbajab.Wt
namespace Go.Proofs.Ythcfkiinjcbajab.Wt
open Go.ChangeShapes Go.WideShapes Go.ChangeAt Go.RowKit
open Go.Proofs.Ythcfkiinjcbajab.Pl
set_option linter.unusedVariables false
set_option linter.unusedSimpArgs false
/-- A state whose end leads on. -/
def ledS (t : Int) (s : St) : St := if s.1 = 1000000001 then s else (1000000001, s.2 ++ if t = -1 then [] else [(0, 0, s.1, t)])
/-- The states from a on, up to the one ahead of q, lead on. -/
def ledL (t : Int) (a q : Nat) (l : List St) : List St := l.mapIdx fun i s => if a ≤ i ∧ i < q then ledS t s else s
theorem ledL_len (t : Int) (a q : Nat) (l : List St) : (ledL t a q l).length = l.length := by simp [ledL]
theorem ledL_el {t : Int} {a q : Nat} {l : List St} {j : Nat} (hj : j < l.length) : el (ledL t a q l) j = if a ≤ j ∧ j < q then ledS t (el l j) else el l j := by
  rw [el_get (by rw [ledL_len]; exact hj), el_get hj]
  simp [ledL]
theorem ledL_start (t : Int) (a : Nat) (l : List St) : ledL t a a l = l := el_ext (ledL_len _ _ _ _) fun j hj => by
  rw [ledL_len] at hj
  rw [ledL_el hj, if_neg (by omega)]
theorem ledL_step {t : Int} {a q : Nat} {l : List St} (ha : a ≤ q) (hq : q < l.length) : ledL t a (q + 1) l = (ledL t a q l).set q (ledS t (el l q)) := el_ext (by rw [List.length_set, ledL_len, ledL_len]) fun j hj => by
  rw [ledL_len] at hj
  rw [ledL_el hj, Pl.el_set (by rw [ledL_len]; exact hj), ledL_el hj]
  by_cases e : q = j
  · rw [if_pos e, ← e, if_pos (by omega)]
  · rw [if_neg e]
    by_cases h : a ≤ j ∧ j < q
    · rw [if_pos h, if_pos (by omega)]
    · rw [if_neg h, if_neg (by omega)]
theorem ledL_here {t : Int} {a q : Nat} {l : List St} (hq : q < l.length) : el (ledL t a q l) q = el l q := by rw [ledL_el hq, if_neg (by omega)]
theorem ledL_mid (t : Int) (x y z : List St) : ledL t x.length (x.length + y.length) (x ++ y ++ z) = x ++ y.map (ledS t) ++ z := el_ext (by rw [ledL_len]; simp) fun j hj => by
  rw [ledL_len] at hj
  rw [ledL_el hj]
  simp only [List.length_append] at hj
  by_cases h1 : j < x.length
  · rw [if_neg (by omega), List.append_assoc, List.append_assoc, el_left h1, el_left h1]
  · by_cases h2 : j < x.length + y.length
    · have e1 : el (x ++ y ++ z) j = el y (j - x.length) := by rw [el_left (l := x ++ y) (by simp; omega), el_right (by omega)]
      have e2 : el (x ++ y.map (ledS t) ++ z) j = el (y.map (ledS t)) (j - x.length) := by rw [el_left (l := x ++ y.map (ledS t)) (by simp; omega), el_right (by omega)]
      rw [if_pos (by omega), e1, e2, el_map (by omega)]
    · rw [if_neg (by omega), el_right (l := x ++ y) (by simp; omega), el_right (l := x ++ y.map (ledS t)) (by simp; omega)]
      simp
theorem res_built (tm : Array Value) (W : World) (R : Nat) (ec : Int) (x0 x1 : Value) (hB : Blk W R #[x0, x1] 28) (h2 : tm.getD 2 undef = .pointer (some ⟨R, 0, none⟩)) (h3 : tm.getD 3 undef = .int .i64 ec) : (results Try.f29 tm).run Try.prog W = .ok (.tuple #[.agg #[x0, x1], .int .i64 ec]) W := by
  have c0 := hB.cell 0 (v := x0) rfl
  have c1 := hB.cell 1 (v := x1) rfl
  simp only [Array.getD_eq_getD_getElem?] at h2 h3
  simp [results, Try.results29, go_sem, h2, h3, c0, c1]
/-- A machine of the call's own and an error are answered. -/
def BuiRes (base : Nat) (x : Mc) (ec : Int) (w : World) (e : Ending) (w' : World) : Prop := ∃ vs, e = .returned (.tuple #[.agg #[.int .i64 x.1, vs], .int .i64 ec]) ∧ OwnSts w' base vs x.2 ∧ Below w.heap.size w w'
theorem OwnSts.setB {w : World} {base : Nat} {v : Value} {l : List St} (h : OwnSts w base v l) {a : Addr} (ha : a.block < base) (u : Value) : OwnSts (w.setCell a u) base v l := by
  obtain ⟨vs, h1, h2, h3⟩ := h
  exact ⟨vs, ownsRow_setCell_below h1 ha u, h2, fun j hj => ⟨(h3 j hj).1, ownsRow_setCell_below (h3 j hj).2 ha u⟩⟩
theorem BuiRes.rat {base R : Nat} {x : Mc} {ec : Int} {w w1 : World} {vs : Value} (ho : OwnSts w1 base vs x.2) (hR : R < base) (hb : Below w.heap.size w w1) (hwR : w.heap.size ≤ R) : RatRes x ec w (.returned (.tuple #[.agg #[.int .i64 x.1, vs], .int .i64 ec])) ((w1.setCell ⟨R, 0, none⟩ (.int .i64 x.1)).setCell ⟨R, 1, none⟩ vs) :=
  ⟨_, rfl, ⟨vs, rfl, ((ho.setB (a := ⟨R, 0, none⟩) hR _).setB (a := ⟨R, 1, none⟩) hR _).sts⟩, (hb.setCell (p := ⟨R, 0, none⟩) hwR _).setCell (p := ⟨R, 1, none⟩) hwR _⟩
/-- b.built(). -/
theorem built_any (b base : Nat) (z : Int) (l : List St) (W : World) (h : Bui W 73 base b z l) (hbW : base ≤ W.heap.size) (hok : okM (z, l)) :
    Calls Try.prog 29 #[.pointer (some ⟨b, 0, none⟩)] W fun e W' => BuiRes base (if faultM (z, l) = 0 then (z, l) else (0, [])) (if faultM (z, l) = 0 then 0 else 5) W e W' := by
  obtain ⟨v, h1, h2⟩ := h
  have HM : Hid (Mach W (.agg #[.int .i64 z, v]) (z, l)) := ⟨_, rfl, h2.own.sts⟩
  have HB := hidP h1
  have HO := hidP h2.own
  obtain ⟨a, cap, hv⟩ := h2.sl
  subst hv
  have HK := hidP hok
  have c0 := h1.cell 0 (v := .int .i64 z) rfl
  have c1 := h1.cell 1 (v := .slice a l.length cap) rfl
  have hlt := h1.lt
  clear h1 h2 hok
  obtain ⟨r, hr⟩ : ∃ r, faultM (z, l) = r := ⟨_, rfl⟩
  have HR := hidP hr
  rw [hr]
  clear hr
  by_cases h0 : r = 0
  · have h0' : (r != 0) = false := by simpa using h0
    rw [if_pos h0, if_pos h0]
    clear h0
    go_enter Try.func29, Try.ntmps29
    go_wp2_with (first
      | (go_at_call 30; (with_reducible refine (coreCheck_any _ (z, l) _ (HM.out.later (B := W.heap.size) (by go_grown) (Nat.le_refl _)) HK.out r HR.out).mono ?_); rintro e w1 ⟨rfl, hb⟩; simp only [World.size_alloc] at hb; have KR := hidP ((Blk.made W _ 28).below hb (by omega)); have HB1 := hidP (((Below.refl W.heap.size W).alloc (Nat.le_refl _) _).trans (hb.mono (by omega))); have KB := hidP (HB.out.below HB1.out hlt); have e0 := KR.out.cell 0 (v := .int .i64 0) rfl; have e1 := KR.out.cell 1 (v := .slice none 0 0) rfl; have g0 := KR.out.fz 0; have g1 := KR.out.fz 1; have d0 := KB.out.cell 0 (v := .int .i64 z) rfl; have d1 := KB.out.cell 1 (v := .slice a l.length cap) rfl; clear hb))
    exact bodyPost_ret (res_built _ _ W.heap.size 0 _ _ ((KR.out.set 0 (.int .i64 z)).set 1 (.slice a l.length cap)) rfl rfl) rfl ⟨_, rfl, HO.out.laterB ((HB1.out.setCell (Nat.le_refl _) _).setCell (Nat.le_refl _) _), (HB1.out.setCell (Nat.le_refl _) _).setCell (Nat.le_refl _) _⟩
  · have h0' : (r != 0) = true := bne_iff_ne.2 h0
    rw [if_neg h0, if_neg h0]
    clear h0
    go_enter Try.func29, Try.ntmps29
    go_wp2_with (first
      | (go_at_call 30; (with_reducible refine (coreCheck_any _ (z, l) _ (HM.out.later (B := W.heap.size) (by go_grown) (Nat.le_refl _)) HK.out r HR.out).mono ?_); rintro e w1 ⟨rfl, hb⟩; simp only [World.size_alloc] at hb; have KR := hidP ((Blk.made W _ 28).below hb (by omega)); have HB1 := hidP (((Below.refl W.heap.size W).alloc (Nat.le_refl _) _).trans (hb.mono (by omega))); have e0 := KR.out.cell 0 (v := .int .i64 0) rfl; have e1 := KR.out.cell 1 (v := .slice none 0 0) rfl; have g0 := KR.out.fz 0; have g1 := KR.out.fz 1; clear hb))
    exact bodyPost_ret (res_built _ _ W.heap.size 5 _ _ ((KR.out.set 0 (.int .i64 0)).set 1 (.slice none 0 0)) rfl rfl) rfl ⟨_, rfl, OwnSts.nil _ _, (HB1.out.setCell (Nat.le_refl _) _).setCell (Nat.le_refl _) _⟩
theorem idx2_0 (a b c d : Value) (w : World) : (Instr.index 70 (.agg #[a, b, c, d]) (.int .i64 0)).run Try.prog w = .ok (.agg #[a, b]) w := by kernel_rfl
theorem idx2_1 (a b c d : Value) (w : World) : (Instr.index 70 (.agg #[a, b, c, d]) (.int .i64 1)).run Try.prog w = .ok (.agg #[c, d]) w := by kernel_rfl
set_option maxRecDepth 100000 in
/-- check(both). -/
theorem check2_any (za zb : Int) (aa ab : Option Addr) (ca cb : Nat) (la lb : List St) (w : World) (ha : Mach w (.agg #[.int .i64 za, .slice aa la.length ca]) (za, la)) (hoka : okM (za, la)) (hb : Mach w (.agg #[.int .i64 zb, .slice ab lb.length cb]) (zb, lb)) (hokb : okM (zb, lb)) :
    Calls Try.prog 25 #[.agg #[.int .i64 za, .slice aa la.length ca, .int .i64 zb, .slice ab lb.length cb]] w fun e w' => e = .returned (.int .i64 (if faultM (za, la) ≠ 0 then faultM (za, la) else faultM (zb, lb))) ∧ Below w.heap.size w w' := by
  have HA := hidP ha
  have HB := hidP hb
  have HKA := hidP hoka
  have HKB := hidP hokb
  obtain ⟨ra, hra⟩ : ∃ r, faultM (za, la) = r := ⟨_, rfl⟩
  obtain ⟨rb, hrb⟩ : ∃ r, faultM (zb, lb) = r := ⟨_, rfl⟩
  have HRA := hidP hra
  have HRB := hidP hrb
  rw [hra, hrb]
  clear hoka hokb ha hb hra hrb
  obtain ⟨r, hr⟩ : ∃ r, (if ra ≠ 0 then ra else rb) = r := ⟨_, rfl⟩
  have HRR := hidP hr
  rw [hr]
  clear hr
  generalize la.length = na at *
  generalize lb.length = nb at *
  go_enter Try.func25, Try.ntmps25
  go_wp2
  go_loopw [7] (fun i wr => ∃ (k : Int), 0 ≤ k ∧ k ≤ 2 ∧ i = .int .i64 k ∧ (1 ≤ k → ra = 0) ∧ (2 ≤ k → rb = 0) ∧ Hid (Below w.heap.size w wr)) (fun i _ => 2 - (intOf i).toNat)
  case atStart => exact ⟨0, by omega, by omega, rfl, by omega, by omega, hidP (by go_grown)⟩
  case round =>
    obtain ⟨k, hk0, hk, rfl, h1, h2, hb⟩ := hrel
    have i0 := idx2_0 (.int .i64 za) (.slice aa na ca) (.int .i64 zb) (.slice ab nb cb)
    have i1 := idx2_1 (.int .i64 za) (.slice aa na ca) (.int .i64 zb) (.slice ab nb cb)
    have hsr := hb.out.size
    rcases (show k = 0 ∨ k = 1 ∨ k = 2 by omega) with rfl | rfl | rfl
    · have HC : Hid (∀ W, Below w.heap.size w W → Calls Try.prog 30 #[.agg #[.int .i64 za, .slice aa na ca]] W fun e w' => e = .returned (.int .i64 ra) ∧ Below W.heap.size W w') := fun W hW => coreCheck_any _ (za, la) W (HA.out.later hW (Nat.le_refl _)) HKA.out ra HRA.out
      clear h1 h2
      by_cases h0 : ra = 0
      · have h0' : (ra != 0) = false := by simpa using h0
        have H0 := hidP h0
        clear h0
        go_wp2_with (first
          | (go_at_call 30; (with_reducible refine (HC.out _ (hb.out.alloc hsr _)).mono ?_); rintro e w1 ⟨rfl, hb1⟩; simp only [World.size_alloc] at hb1; have HB1 := hidP ((hb.out.alloc hsr _).trans (hb1.mono (by omega))); clear hb1))
        go_roundw
        case rel => exact ⟨1, by omega, by omega, by go_num, fun _ => H0.out, by omega, HB1⟩
        case measure => simp [intOf]
      · have h0' : (ra != 0) = true := bne_iff_ne.2 h0
        have HR : Hid (r = ra) := by show _ = _; rw [← HRR.out, if_pos h0]
        clear h0
        go_wp2_with (first
          | (go_at_call 30; (with_reducible refine (HC.out _ (hb.out.alloc hsr _)).mono ?_); rintro e w1 ⟨rfl, hb1⟩; simp only [World.size_alloc] at hb1; have HB1 := hidP ((hb.out.alloc hsr _).trans (hb1.mono (by omega))); clear hb1))
        go_ret
        exact ⟨by rw [HR.out]; rfl, HB1.out⟩
    · have HC : Hid (∀ W, Below w.heap.size w W → Calls Try.prog 30 #[.agg #[.int .i64 zb, .slice ab nb cb]] W fun e w' => e = .returned (.int .i64 rb) ∧ Below W.heap.size W w') := fun W hW => coreCheck_any _ (zb, lb) W (HB.out.later hW (Nat.le_refl _)) HKB.out rb HRB.out
      have HRA0 := hidP (h1 (by omega))
      have HR : Hid (r = rb) := by show _ = _; rw [← HRR.out, if_neg (by rw [HRA0.out]; simp)]
      clear h1 h2
      by_cases h0 : rb = 0
      · have h0' : (rb != 0) = false := by simpa using h0
        have H0 := hidP h0
        clear h0
        go_wp2_with (first
          | (go_at_call 30; (with_reducible refine (HC.out _ (hb.out.alloc hsr _)).mono ?_); rintro e w1 ⟨rfl, hb1⟩; simp only [World.size_alloc] at hb1; have HB1 := hidP ((hb.out.alloc hsr _).trans (hb1.mono (by omega))); clear hb1))
        go_roundw
        case rel => exact ⟨2, by omega, by omega, by go_num, fun _ => HRA0.out, fun _ => H0.out, HB1⟩
        case measure => simp [intOf]
      · have h0' : (rb != 0) = true := bne_iff_ne.2 h0
        clear h0
        go_wp2_with (first
          | (go_at_call 30; (with_reducible refine (HC.out _ (hb.out.alloc hsr _)).mono ?_); rintro e w1 ⟨rfl, hb1⟩; simp only [World.size_alloc] at hb1; have HB1 := hidP ((hb.out.alloc hsr _).trans (hb1.mono (by omega))); clear hb1))
        go_ret
        exact ⟨by rw [HR.out]; rfl, HB1.out⟩
    · have HR : Hid (r = 0) := by
        show _ = _
        rw [← HRR.out, if_neg (by rw [h1 (by omega)]; simp), h2 (by omega)]
      clear h1 h2
      go_wp2
      go_ret
      exact ⟨by rw [HR.out]; rfl, hb.out⟩
end Go.Proofs.Ythcfkiinjcbajab.Wt
