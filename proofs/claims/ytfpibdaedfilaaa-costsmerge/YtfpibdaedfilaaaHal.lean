/- States of the call's own whose rows of arcs lie apart: a state with arcs more; an arc more, another end, at any place. -/
import Derived.Test.YtfpibdaedfilaaaHak
import Derived.Test.YtfpibdaedfilaaaHah
namespace Go.Proofs.Ytfpibdaedfilaaa.Wt
open Go.ChangeShapes Go.WideShapes Go.ChangeAt Go.RowKit
open Go.Proofs.Ytfpibdaedfilaaa.Pl
set_option linter.unusedVariables false
set_option linter.unusedSimpArgs false
def Kept (M : Option Nat) (w w' : World) : Prop := w.heap.size ≤ w'.heap.size ∧ ∀ (k : Nat) (o : Obj), w.heap[k]? = some o → some k ≠ M → (∀ (cs : Array Value) (T : TypeId) (fr : Nat × Nat), o = .cells cs T fr → T ≠ 56 ∧ T ≠ 58) → w'.heap[k]? = some o
theorem Kept.refl (M : Option Nat) (w : World) : Kept M w w := ⟨Nat.le_refl _, fun _ _ h _ _ => h⟩
theorem Kept.trans {M : Option Nat} {w w' w2 : World} (h : Kept M w w') (h2 : Kept M w' w2) : Kept M w w2 := ⟨Nat.le_trans h.1 h2.1, fun k o e a b => h2.2 k o (h.2 k o e a b) a b⟩
theorem Kept.any {w w' : World} (h : Kept none w w') (M : Option Nat) : Kept M w w' := ⟨h.1, fun k o e _ b => h.2 k o e (by simp) b⟩
theorem Kept.of {w w' : World} (h : Below w.heap.size w w') : Kept none w w' := ⟨h.size, fun k o e _ _ => (h.block k (lt_of_block e)).trans e⟩
theorem Kept.setM (w : World) (M o : Nat) (v : Value) : Kept (some M) w (w.setCell ⟨M, o, none⟩ v) := ⟨by simp [World.setCell], fun k ob e a _ => (Below.heap_setCell w ⟨M, o, none⟩ v k (fun h => a (by rw [h]))).trans e⟩
theorem Kept.setT {w : World} {g o : Nat} {v : Value} {cs : Array Value} {fr : Nat × Nat} (hg : w.heap[g]? = some (.cells cs 56 fr)) : Kept none w (w.setCell ⟨g, o, none⟩ v) := ⟨by simp [World.setCell], fun k ob e _ b => by
 by_cases hk : k = g
 ·subst hk
  rw [hg] at e
  exact absurd rfl (b _ _ _ (Option.some.inj e).symm).1
 ·exact (Below.heap_setCell w ⟨g, o, none⟩ v k hk).trans e⟩
theorem Kept.grown {w w' : World} {B s n : Nat} {T : TypeId} {v : Value} {xs : List Value} (ho : w.ownsRow B T s v n xs) (hT : T = 56 ∨ T = 58) (hg : w.grownBy w' v.ownBlock) : Kept none w w' := ⟨hg.size, fun k ob e _ b => by
 refine (hg.block k (lt_of_block e) (fun h => ?_)).trans e
 rcases ho.2 with ⟨hv, _⟩ | ⟨g, cap, cur, hv, _, hgb, _⟩
 ·rw [hv] at h; simp [Value.ownBlock] at h
 ·rw [hv] at h
  simp only [Value.ownBlock, Option.some.injEq] at h
  subst h
  rw [hgb] at e
  have := b _ _ _ (Option.some.inj e).symm
  rcases hT with h | h
  ·exact this.1 h
  ·exact this.2 h⟩
theorem Kept.blk {M : Option Nat} {w w' : World} {b : Nat} {cs : Array Value} {t : TypeId} (h : Kept M w w') (hb : Blk w b cs t) (hM : some b ≠ M) (h1 : t ≠ 56) (h2 : t ≠ 58) : Blk w' b cs t :=
 h.2 b _ hb hM (fun cs' T fr e => by injection e with _ e2 _; subst e2; exact ⟨h1, h2⟩)
theorem OwnApt.pushA {W w5 : World} {base : Nat} {vo va : Value} {l : List St} {ar : List Ar} (h : OwnApt W base vo l) (hb : Below W.heap.size W w5) (hva : w5.ownsRow W.heap.size 58 4 va ar.length (ar.flatMap encA)) (f : Int) (hl : (l.length + 1) * 32 ≤ 140737488355328) (hbase : base ≤ W.heap.size) :
  ∃ a3 c3 w6, (Builtin.append_ #[25, 25] 25 #[vo, .slice (some ⟨w5.heap.size, 0, none⟩) 1 1]).run Try.prog (w5.alloc (.cells #[.int .i64 f, va] 56)) = .ok (.slice a3 (l.length + 1) c3) w6 ∧ OwnApt w6 base (.slice a3 (l.length + 1) c3) (l ++ [(f, ar)]) ∧ Below base w5 w6 ∧ Kept none w5 w6 ∧ (w5.alloc (.cells #[.int .i64 f, va] 56)).grownBy w6 vo.ownBlock := by
 obtain ⟨i1, hi1, hy0, hy1, hy2⟩ := info_parts infoState
 obtain ⟨vs, q1, q2, q3, q4⟩ := h
 have hs5 := hb.size
 generalize hW : w5.alloc (.cells #[.int .i64 f, va] 56) = W2
 have hB5 : Below w5.heap.size w5 W2 := by rw [← hW]; exact (Below.refl _ _).alloc (Nat.le_refl _) _
 have hB : Below W.heap.size W W2 := hb.trans (hB5.mono hs5)
 have e0 : W2.heap[w5.heap.size]? = some (.cells #[.int .i64 f, va] 56 (0, 0)) := by rw [← hW]; exact Blk.made w5 _ _
 have hws : W2.heap.size = w5.heap.size + 1 := by rw [← hW]; simp
 have hvo := ownBelow q1 hB
 have hvaW := ownBelow hva hB5
 obtain ⟨v3, w3, hr, h1, h2, _⟩ := run_append_own (P := Try.prog) W2 base 25 25 56 i1 _ 2 32 Try.underlying25 hi1 hy0 hy1 hy2 rfl (by omega) vo vs.length (vs.flatMap encS) hvo ⟨w5.heap.size, 0, none⟩ 1 1 [.int .i64 f, va] rfl (World.news_of_block (cs := #[.int .i64 f, va]) e0) (by
  intro u hu
  simp at hu
  rcases hu with rfl | rfl
  ·rfl
  ·exact own_one hva) (by rw [q2]; unfold maxLen; omega) (by rw [q2]; exact hl) (by omega)
 have hb3 : Below base w5 w3 := (hB5.mono (by omega)).trans ((Below.refl _ _).grown h2 (by omega) (fun k hk => (q1.lt k hk).1))
 have hk3 : Kept none w5 w3 := (Kept.of hB5).trans (Kept.grown hvo (.inl rfl) h2)
 obtain ⟨a3, c3, hv3⟩ := own_sl h1
 rw [q2] at hv3
 subst hv3
 refine ⟨a3, c3, w3, hr, ⟨vs ++ [(f, va)], by simpa [encS] using h1, by simp [q2], ?_, ?_⟩, hb3, hk3, h2⟩
 ·intro j hj
  have hj' : j < l.length ∨ j = l.length := by simp at hj; omega
  rcases hj' with hj' | rfl
  ·rw [el_left (by omega), el_left hj']
   have := ownBelow (q3 j hj').2 hB
   exact ⟨(q3 j hj').1, this.kept h2 (own_apart this hvo (by decide))⟩
  ·rw [el_last, ← q2, el_last]
   exact ⟨rfl, ownMono (hvaW.kept h2 (own_apart hvaW hvo (by decide))) hbase⟩
 ·have hnew : ∀ i, i < l.length → Apt (el vs i).2 va := fun i hi => by
   rcases ha : (el vs i).2.ownBlock with _ | k
   ·exact .inl ha
   ·refine .inr ?_
    rw [ha]
    intro e
    have h8 := ((q3 i hi).2.lt k ha).2
    have h9 := (hva.lt k e.symm).1
    omega
  intro i j hi hj hij
  have hi' : i < l.length ∨ i = l.length := by simp at hi; omega
  have hj' : j < l.length ∨ j = l.length := by simp at hj; omega
  rcases hi' with hi' | rfl
  ·rcases hj' with hj' | rfl
   ·rw [el_left (by omega), el_left (by omega)]; exact q4 i j hi' hj' hij
   ·rw [el_left (by omega), ← q2, el_last]; exact hnew i hi'
  ·rcases hj' with hj' | rfl
   ·rw [el_left (l := vs) (j := j) (by omega), ← q2, el_last]; exact (hnew j hj').symm
   ·exact absurd rfl hij
theorem OwnApt.arcAt {w : World} {base : Nat} {v : Value} {l : List St} (h : OwnApt w base v l) (hbase : base ≤ w.heap.size) (q : Nat) (hq : q < l.length) (c : Ar) (hl : ((el l q).2.length + 1) * 32 ≤ 140737488355328) :
    ∃ g cap a4 c4, v = .slice (some ⟨g, 0, none⟩) l.length cap ∧ base ≤ g ∧ g < w.heap.size ∧ w.cell? ⟨g, q * 2 + 1, none⟩ = some (.slice a4 (el l q).2.length c4) ∧
      ∃ a5 c5 w4, (Builtin.append_ #[54, 54] 54 #[.slice a4 (el l q).2.length c4, .slice (some ⟨w.heap.size, 0, none⟩) 1 1]).run Try.prog (w.alloc (.cells #[.int .i64 c.1, .int .i64 c.2.1, .int .i64 c.2.2.1, .int .i64 c.2.2.2] 58)) = .ok (.slice a5 ((el l q).2.length + 1) c5) w4 ∧
        w4.cell? ⟨g, q * 2 + 1, none⟩ = some (.slice a4 (el l q).2.length c4) ∧ w4.frozen? ⟨g, q * 2 + 1, none⟩ = false ∧ Below base w w4 ∧
        OwnApt (w4.setCell ⟨g, q * 2 + 1, none⟩ (.slice a5 ((el l q).2.length + 1) c5)) base v (l.set q ((el l q).1, (el l q).2 ++ [c])) ∧ Kept none w w4 ∧ Kept none w4 (w4.setCell ⟨g, q * 2 + 1, none⟩ (.slice a5 ((el l q).2.length + 1) c5)) ∧ (w.alloc (.cells #[.int .i64 c.1, .int .i64 c.2.1, .int .i64 c.2.2.1, .int .i64 c.2.2.2] 58)).grownBy w4 (Value.slice a4 (el l q).2.length c4).ownBlock := by
  obtain ⟨i1, hi1, hy0, hy1, hy2⟩ := info_parts infoArc
  obtain ⟨vs, q1, q2, q3, q4⟩ := h
  have hqv : q < vs.length := by omega
  have h3 := (q3 q hq).2
  obtain ⟨a4, c4, hva⟩ := own_sl h3
  rcases q1.2 with ⟨_, h0⟩ | ⟨g, cap, cur, hv, hbg, hg, hnc, hcm, hcs, htake⟩
  · omega
  have hgl : g < w.heap.size := Blk.lt (t := 56) hg
  have hvb : v.ownBlock = some g := by rw [hv]; rfl
  have hcell : w.cell? ⟨g, q * 2 + 1, none⟩ = some (el vs q).2 := by
    have h9 := q1.cells hvb (q * 2 + 1) (el vs q).2 (by rw [flat_at encS_len vs q hqv 1 (by omega)]; rfl)
    rw [Addr.add_lit, Nat.zero_add] at h9
    exact h9
  generalize hW : w.alloc (.cells #[.int .i64 c.1, .int .i64 c.2.1, .int .i64 c.2.2.1, .int .i64 c.2.2.2] 58) = W
  have hB : Below w.heap.size w W := by rw [← hW]; exact (Below.refl _ _).alloc (Nat.le_refl _) _
  have hws : W.heap.size = w.heap.size + 1 := by rw [← hW]; simp
  have hrow : Row 4 encA W (.slice (some ⟨w.heap.size, 0, none⟩) 1 1) [c] := by rw [← hW]; exact oneRow (enc := encA) w c rfl 58
  have h3W := ownBelow h3 hB
  obtain ⟨v4, w4, r4, ho4, hg4, hn4⟩ := run_append_spot (P := Try.prog) (w := W) encA_len (by decide) encA_one 54 54 base 58 i1 _ 32 Try.underlying54 hi1 hy0 hy1 hy2 rfl _ (el l q).2.length ((el l q).2.flatMap encA) h3W _ [c] hrow (by simp; unfold maxLen; omega) (by simpa using hl) (by omega)
  have hb4 : Below base w w4 := (hB.mono hbase).trans ((Below.refl _ _).grown hg4 (by omega) (fun k hk => (h3.lt k hk).1))
  have hk4 : Kept none w w4 := (Kept.of hB).trans (Kept.grown h3W (.inr rfl) hg4)
  have hne : (el vs q).2.ownBlock ≠ some g := by
    rcases own_apart h3 q1 (by decide) with e | e
    · rw [e]; simp
    · rw [← hvb]; exact e
  have hblk : w4.heap[g]? = w.heap[g]? := (hg4.block g (by omega) (Ne.symm hne)).trans (hB.block g hgl)
  have hcell4 : w4.cell? ⟨g, q * 2 + 1, none⟩ = some (el vs q).2 := (World.cell?_of_block hblk).trans hcell
  have hfz4 : w4.frozen? ⟨g, q * 2 + 1, none⟩ = false := (World.frozen?_of_block hblk).trans (Blk.fz (t := 56) hg _)
  obtain ⟨a5, c5, hv5⟩ := own_sl ho4
  have q1' : w4.ownsRow base 56 2 v vs.length (vs.flatMap encS) := (ownBelow q1 hB).kept hg4 (by rw [hvb]; exact .inr (Ne.symm hne))
  refine ⟨g, cap, a4, c4, by rw [hv, q2], hbg, hgl, by rw [hcell, hva], a5, c5, w4, ?_, by rw [hcell4, hva], hfz4, hb4, ?_, hk4, Kept.setT (hblk.trans hg), by rw [← hva]; exact hg4⟩
  · rw [← hva, r4, hv5]; simp
  · have hvx : v4 = .slice a5 ((el l q).2.length + 1) c5 := by rw [hv5]; simp
    rw [← hvx]
    have q1s := q1'
    rw [hv] at q1s
    have hs := (q1s.stored (q * 2 + 1) v4).1
    rw [flat_set hqv] at hs
    refine ⟨vs.set q ((el vs q).1, v4), by rw [List.length_set, hv]; exact hs, by simp [q2], ?_, ?_⟩
    · intro j hj
      have hj' : j < l.length := by simpa using hj
      rw [Pl.el_set (by omega), Pl.el_set hj']
      by_cases e : q = j
      · subst e
        rw [if_pos rfl, if_pos rfl]
        refine ⟨(q3 q hq).1, ?_⟩
        have h6 : w4.ownsRow base 58 4 v4 ((el l q).2 ++ [c]).length (((el l q).2 ++ [c]).flatMap encA) := by rw [List.length_append, List.flatMap_append]; exact ho4
        refine ownsRow_setCell_other (a := ⟨g, q * 2 + 1, none⟩) h6 ?_ _
        rcases own_apart h6 q1' (by decide) with e | e
        · rw [e]; simp
        · rw [← hvb]; exact e
      · rw [if_neg e, if_neg e]
        have h5 := q3 j hj'
        have h6 := (ownBelow h5.2 hB).kept hg4 (q4 j q hj' hq (Ne.symm e))
        refine ⟨h5.1, ownsRow_setCell_other (a := ⟨g, q * 2 + 1, none⟩) h6 ?_ _⟩
        rcases own_apart h6 q1' (by decide) with e | e
        · rw [e]; simp
        · rw [← hvb]; exact e
    · intro i j hi hj hij
      have hi' : i < l.length := by simpa using hi
      have hj' : j < l.length := by simpa using hj
      rw [Pl.el_set (j := i) (by omega), Pl.el_set (j := j) (by omega)]
      by_cases ei : q = i
      · rw [if_pos ei, if_neg (by omega)]
        subst ei
        exact ((q4 j q hj' hq (Ne.symm hij)).near (ownBelow (q3 j hj').2 hB) hn4).symm
      · rw [if_neg ei]
        by_cases ej : q = j
        · rw [if_pos ej]
          subst ej
          exact (q4 i q hi' hq hij).near (ownBelow (q3 i hi').2 hB) hn4
        · rw [if_neg ej]; exact q4 i j hi' hj' hij
theorem OwnApt.lt {w : World} {base : Nat} {v : Value} {l : List St} (h : OwnApt w base v l) : ∀ k, v.ownBlock = some k → base ≤ k ∧ k < w.heap.size := by
 obtain ⟨vs, q1, _⟩ := h
 exact q1.lt
theorem OwnApt.rowLt {w : World} {base g n cap q : Nat} {l : List St} {va : Value} (h : OwnApt w base (.slice (some ⟨g, 0, none⟩) n cap) l) (hq : q < l.length) (hc : w.cell? ⟨g, q * 2 + 1, none⟩ = some va) : ∀ k, va.ownBlock = some k → base ≤ k ∧ k < w.heap.size := by
 obtain ⟨vs, q1, q2, q3, q4⟩ := h
 have h9 := q1.cells (g := g) rfl (q * 2 + 1) (el vs q).2 (by rw [flat_at encS_len vs q (by omega) 1 (by omega)]; rfl)
 rw [Addr.add_lit, Nat.zero_add, hc] at h9
 rw [Option.some.inj h9]
 exact (q3 q hq).2.lt
def Bui (w : World) (t : TypeId) (base b : Nat) (z : Int) (l : List St) : Prop := ∃ v, Blk w b #[.int .i64 z, v] t ∧ OwnApt w base v l
theorem Bui.later {w w' : World} {t : TypeId} {base b : Nat} {z : Int} {l : List St} (h : Bui w t base b z l) (hb : Below w.heap.size w w') : Bui w' t base b z l := by
 obtain ⟨v, h1, h2⟩ := h
 exact ⟨v, h1.below hb h1.lt, h2.later hb⟩
theorem shiftedP_any (va : Value) (ar : List Ar) (d : Int) (w : World) (hA : Arcs w va ar) (hl : ar.length ≤ 400) (hd : 0 ≤ d ∧ d ≤ 1000) (hto : ∀ p ∈ ar, 0 ≤ p.2.2.2 ∧ p.2.2.2 ≤ 1000) :
  Calls Try.prog 62 #[va, .int .i64 d] w fun e w' => ∃ v', e = .returned v' ∧ OwnArcs w' w.heap.size v' (ar.map (shA d)) ∧ Below w.heap.size w w' := by
 obtain ⟨i0, hi0, hz0, hz1, hz2⟩ := info_parts infoArc
 obtain ⟨a2, cap2, rfl, hga⟩ := hA.get
 have HGA : Hid (∀ j, j < ar.length → ∃ b off, a2 = some ⟨b, off, none⟩ ∧ b < w.heap.size ∧ w.cell? ⟨b, off + j * 4, none⟩ = some (.int .i64 (el ar j).1) ∧ w.cell? ⟨b, off + j * 4 + 1, none⟩ = some (.int .i64 (el ar j).2.1) ∧ w.cell? ⟨b, off + j * 4 + 2, none⟩ = some (.int .i64 (el ar j).2.2.1) ∧ w.cell? ⟨b, off + j * 4 + 3, none⟩ = some (.int .i64 (el ar j).2.2.2)) := hga
 have HTO : Hid (∀ p ∈ ar, 0 ≤ p.2.2.2 ∧ p.2.2.2 ≤ 1000) := hto
 clear hA hga hto
 generalize hL : ar.length = L at *
 have HL : Hid (ar.length = L) := hL
 clear hL
 go_enter Try.func62, Try.ntmps62
 go_wp2
 go_loopw [5, 10] (fun s5 i wr => ∃ (j : Nat) (vr : Value), j ≤ L ∧ vr = s5 ∧ i = .int .i64 j ∧ Hid (wr.ownsRow w.heap.size 58 4 vr j (((ar.take j).map (shA d)).flatMap encA)) ∧ Hid (Below w.heap.size w wr)) (fun _ i _ => L - (intOf i).toNat)
 case atStart => exact ⟨0, _, Nat.zero_le _, rfl, rfl, World.ownsRow_nil _ _ _ _, Below.refl _ _⟩
 case round =>
  obtain ⟨j, vr, hj, rfl, rfl, hrw, hb⟩ := hrel
  by_cases hjL : j < L
  ·obtain ⟨b3, off3, rfl, hb3l, e0, e1, e2, e3⟩ := HGA.out j hjL
   have e0 := (hb.out.cell (p := ⟨b3, off3 + j * 4, none⟩) hb3l).trans e0
   have e1 := (hb.out.cell (p := ⟨b3, off3 + j * 4 + 1, none⟩) hb3l).trans e1
   have e2 := (hb.out.cell (p := ⟨b3, off3 + j * 4 + 2, none⟩) hb3l).trans e2
   have e3 := (hb.out.cell (p := ⟨b3, off3 + j * 4 + 3, none⟩) hb3l).trans e3
   have HST : Hid ((ar.take (j + 1)).map (shA d) = (ar.take j).map (shA d) ++ [shA d (el ar j)]) := el_mapA d (by rw [HL.out]; exact hjL)
   have HLE : Hid (((ar.take j).map (shA d)).length = j) := by show _ = _; rw [List.length_map, List.length_take, HL.out]; omega
   have HT := hidP (HTO.out _ (el_mem (l := ar) (j := j) (by rw [HL.out]; exact hjL)))
   have hj0 : (0 : Int) ≤ (j : Int) := by omega
   have hj1 : (j : Int) < (L : Int) := by omega
   generalize (ar.take j).map (shA d) = tl at *
   generalize el ar j = p at *
   obtain ⟨x0, x1, x2, x3⟩ := p
   simp only at e0 e1 e2 e3
   have hx3 : 0 ≤ x3 ∧ x3 ≤ 1000 := HT.out
   have hw3 : IntKind.i64.wrap (x3 + d) = x3 + d := wrapI (by omega) (by omega)
   have HD : Hid ((wr.alloc (.cells #[.int .i64 x0, .int .i64 x1, .int .i64 x2, .int .i64 (x3 + d)] 58)).ownsRow w.heap.size 58 4 vr j (tl.flatMap encA)) := hrw.out.alloc _
   have HDB : Hid (Below w.heap.size w (wr.alloc (.cells #[.int .i64 x0, .int .i64 x1, .int .i64 x2, .int .i64 (x3 + d)] 58))) := hb.out.alloc hb.out.size _
   clear hrw
   go_wp2_with (first
    | (at_builtin; refine wpList_append_rows encA_len (by decide) encA_one rfl _ _ 54 rfl w.heap.size 58 i0 _ 32 Try.underlying54 hi0 hz0 hz1 hz2 rfl _ j (tl.flatMap encA) rfl (HD.out.alloc _) _ [(x0, x1, x2, x3 + d)] rfl (by have h9 := oneRow (enc := encA) (wr.alloc (.cells #[.int .i64 x0, .int .i64 x1, .int .i64 x2, .int .i64 (x3 + d)] 58)) (x0, x1, x2, x3 + d) rfl 58; simp only [World.size_alloc] at h9; exact h9) (by simp; unfold maxLen; omega) (by simp; omega) (by have := HDB.out.size; simp at this ⊢; omega) ?_; intro v4 w4 ho4 hg4; have HO4 := hidP ho4; have HB4 : Hid (Below w.heap.size w w4) := (HDB.out.alloc HDB.out.size _).grown hg4 (by have := HDB.out.size; simp at this ⊢; omega) (fun k hk => (HD.out.lt k hk).1); clear ho4 hg4))
   go_roundw
   case rel => exact ⟨j + 1, _, by omega, rfl, by go_num, by rw [HST.out, List.flatMap_append]; exact HO4.out, HB4⟩
   case measure => simp [intOf]; omega
  ·have hnl : ¬ (j : Int) < (L : Int) := by omega
   have HO : Hid (OwnArcs wr w.heap.size vr (ar.map (shA d))) := by
    have h9 := hrw.out
    have h8 : j = ar.length := by rw [HL.out]; omega
    unfold Hid OwnArcs
    rw [List.length_map]
    rw [h8, List.take_length] at h9
    exact h9
   go_wp2
   go_ret
   exact ⟨_, rfl, HO.out, hb.out⟩
theorem begin_any (b base : Nat) (v0 : Value) (z f : Int) (W : World) (h : Blk W b #[.int .i64 z, v0] 84) (hb : b < base) (hbW : base ≤ W.heap.size) (h1 : v0.oneCell' = true) :
  Calls Try.prog 38 #[.pointer (some ⟨b, 0, none⟩), .int .i64 f] W fun e W' => e = .returned (.tuple #[]) ∧ Bui W' 84 base b 0 [(f, [])] ∧ Below b W W' ∧ Kept (some b) W W' := by
 have HB := hidP h
 have hlt := h.lt
 have c0 := h.cell 0 (v := .int .i64 z) rfl
 have c1 := h.cell 1 (v := v0) rfl
 have g0 := h.fz 0
 have g1 := h.fz 1
 clear h
 go_enter Try.func38, Try.ntmps38
 go_wp2
 go_end0
 refine ⟨rfl, ⟨_, ((HB.out.set 0 _).set 1 _).alloc _, ?_⟩, ?_, ?_⟩
 ·obtain ⟨W2, hW2⟩ : ∃ W2, (W.setCell ⟨b, 0, none⟩ (.int .i64 0)).setCell ⟨b, 1, none⟩ (.slice (some ⟨W.heap.size, 0, none⟩) 1 1) = W2 := ⟨_, rfl⟩
  have hs : W2.heap.size = W.heap.size := by rw [← hW2]; simp [World.setCell]
  rw [hW2, ← hs]
  refine ⟨[(f, .slice none 0 0)], ⟨rfl, .inr ⟨W2.heap.size, 1, #[.int .i64 f, .slice none 0 0], rfl, by omega, Blk.made _ _ _, Nat.le_refl _, by decide, rfl, rfl⟩⟩, rfl, fun j hj => ?_, fun i j hi hj hij => ?_⟩
  ·obtain rfl : j = 0 := by simpa using hj
   exact ⟨rfl, World.ownsRow_nil _ _ _ _⟩
  ·simp at hi hj
   omega
 ·exact (((Below.refl b W).setCell (p := ⟨b, 0, none⟩) (Nat.le_refl _) _).setCell (p := ⟨b, 1, none⟩) (Nat.le_refl _) _).alloc (by simp [World.setCell]; omega) _
 ·exact ((Kept.setM W b 0 _).trans (Kept.setM _ b 1 _)).trans ((Kept.of ((Below.refl _ _).alloc (Nat.le_refl _) _)).any _)
def lnkS (t x : Int) (s : St) : St := (s.1, s.2 ++ if t = -1 then [] else [(0, 0, x, t)])
theorem set_sameB {l : List St} {q : Nat} (hq : q < l.length) {s : St} (h : s = el l q) : l.set q s = l := by
 refine el_ext (by simp) fun j hj => ?_
 rw [Pl.el_set (by simpa using hj)]
 split
 ·rename_i e; rw [h, e]
 ·rfl
def HeldL (b : Nat) (vs : Value) (g o nb : Nat) (va : Value) (y0 y1 y2 y3 : Int) (w : World) : Prop := w.cell? ⟨b, 1, none⟩ = some vs ∧ w.cell? ⟨g, o, none⟩ = some va ∧ w.cell? ⟨nb, 0, none⟩ = some (.int .i64 y0) ∧ w.cell? ⟨nb, 1, none⟩ = some (.int .i64 y1) ∧ w.cell? ⟨nb, 2, none⟩ = some (.int .i64 y2) ∧ w.cell? ⟨nb, 3, none⟩ = some (.int .i64 y3)
set_option maxRecDepth 100000 in
theorem link_any (b base q : Nat) (z t x : Int) (l : List St) (W : World) (h : Bui W 84 base b z l) (hb : b < base) (hbW : base ≤ W.heap.size) (hq : q < l.length) (hl : (el l q).2.length ≤ 100000) (hll : l.length ≤ 100000) :
  Calls Try.prog 40 #[.pointer (some ⟨b, 0, none⟩), .int .i64 q, .int .i64 t, .int .i64 x] W fun e W' => e = .returned (.tuple #[]) ∧ Bui W' 84 base b z (l.set q (lnkS t x (el l q))) ∧ Below b W W' ∧ Kept (some b) W W' := by
 by_cases ht : t = -1
 ·have H := hidP h
  have hr : Hid (l.set q (lnkS t x (el l q)) = l) := set_sameB hq (by unfold lnkS; rw [if_pos ht]; simp)
  have ht' : (t == -1) = true := by simpa using ht
  clear h ht
  go_enter Try.func40, Try.ntmps40
  go_wp2
  refine bodyPost_ret (v := .tuple #[]) (by simp [results, Try.results40, go_sem]) rfl ?_
  refine ⟨rfl, ?_, Below.refl _ _, Kept.refl _ _⟩
  rw [hr.out]
  exact H.out
 ·have ht' : (t == -1) = false := by simpa using ht
  have hr : Hid (lnkS t x (el l q) = ((el l q).1, (el l q).2 ++ [(0, 0, x, t)])) := by show _ = _; unfold lnkS; rw [if_neg ht]
  obtain ⟨v, h1, h2⟩ := h
  have hlt := h1.lt
  have hA : Below W.heap.size W (W.alloc (.cells #[.int .i64 0, .int .i64 0, .int .i64 x, .int .i64 t] 58)) := (Below.refl _ _).alloc (Nat.le_refl _) _
  have hnb := Blk.made W #[.int .i64 0, .int .i64 0, .int .i64 x, .int .i64 t] 58
  obtain ⟨W1, hW1⟩ : ∃ W1, W1 = W.alloc (.cells #[.int .i64 0, .int .i64 0, .int .i64 x, .int .i64 t] 58) := ⟨_, rfl⟩
  have hs1 : W1.heap.size = W.heap.size + 1 := by rw [hW1]; simp
  rw [← hW1] at hA hnb
  obtain ⟨g, cap, a4, c4, hv, hbg, hgl, hc, a5, c5, w4, hr4, hc4, hf4, hb4, ho4, hk4, hk5, hg4⟩ := (h2.later hA.drew).arcAt (by show base ≤ W1.heap.size; omega) q hq (0, 0, x, t) (by omega)
  subst hv
  have H1 := hidP (h1.below hA hlt)
  have N1 := hidP hnb
  have hgl' : g < W1.heap.size := hgl
  have n4 : Blk w4 W.heap.size #[.int .i64 0, .int .i64 0, .int .i64 x, .int .i64 t] 58 := by
   refine (hnb.drew.alloc _).grown hg4 (fun e => ?_)
   have hcW : W.cell? ⟨g, q * 2 + 1, none⟩ = some (.slice a4 (el l q).2.length c4) := by
    rcases h2.sl with ⟨a', c', e'⟩
    refine (hA.cell (p := ⟨g, q * 2 + 1, none⟩) ?_).symm.trans hc
    obtain ⟨vs, q1, _⟩ := h2
    exact (q1.lt g rfl).2
   have := (h2.rowLt hq hcW _ e.symm).2
   omega
  have HM4 : Hid (Blk w4 b #[.int .i64 z, .slice (some ⟨g, 0, none⟩) l.length cap] 84) := hk4.blk H1.out.drew (by simp) (by decide) (by decide)
  have m1 := H1.out.cell 1 (v := .slice (some ⟨g, 0, none⟩) l.length cap) rfl
  have q0 : (0 : Int) ≤ (q : Int) := by omega
  have q1 : (q : Int) < (l.length : Int) := by omega
  generalize el l q = s at *
  obtain ⟨s0, s1⟩ := s
  simp only at hc hr4 hc4 ho4 hk5 hr
  generalize s1.length = sn at *
  have HS : HeldL b (.slice (some ⟨g, 0, none⟩) l.length cap) g (q * 2 + 1) W.heap.size (.slice a4 sn c4) 0 0 x t W1.drew := ⟨m1, hc, N1.out.cell 0 rfl, N1.out.cell 1 rfl, N1.out.cell 2 rfl, N1.out.cell 3 rfl⟩
  have HSA : HeldL b (.slice (some ⟨g, 0, none⟩) l.length cap) g (q * 2 + 1) W.heap.size (.slice a4 sn c4) 0 0 x t (W1.drew.alloc (.cells #[.int .i64 0, .int .i64 0, .int .i64 x, .int .i64 t] 58)) := by
   have hx := N1.out.drew.alloc (.cells #[.int .i64 0, .int .i64 0, .int .i64 x, .int .i64 t] 58)
   exact ⟨(H1.out.drew.alloc _).cell 1 rfl, (((Below.refl W1.drew.heap.size W1.drew).alloc (Nat.le_refl _) _).cell (p := ⟨g, q * 2 + 1, none⟩) hgl).trans hc, hx.cell 0 rfl, hx.cell 1 rfl, hx.cell 2 rfl, hx.cell 3 rfl⟩
  have HS4 : HeldL b (.slice (some ⟨g, 0, none⟩) l.length cap) g (q * 2 + 1) W.heap.size (.slice a4 sn c4) 0 0 x t w4 := ⟨HM4.out.cell 1 rfl, hc4, n4.cell 0 rfl, n4.cell 1 rfl, n4.cell 2 rfl, n4.cell 3 rfl⟩
  have R4 := hidP hr4
  have HO4 := hidP ho4
  have HM5 : Hid (Blk (w4.setCell ⟨g, q * 2 + 1, none⟩ (.slice a5 (sn + 1) c5)) b #[.int .i64 z, .slice (some ⟨g, 0, none⟩) l.length cap] 84) := HM4.out.setO _ _ (by show b ≠ g; omega)
  have HW5 : Hid (Below b W (w4.setCell ⟨g, q * 2 + 1, none⟩ (.slice a5 (sn + 1) c5))) := ((hA.drew.mono (Nat.le_of_lt hlt)).trans (hb4.mono (Nat.le_of_lt hb))).setCell (p := ⟨g, q * 2 + 1, none⟩) (by show b ≤ g; omega) _
  have HK5 : Hid (Kept (some b) W (w4.setCell ⟨g, q * 2 + 1, none⟩ (.slice a5 (sn + 1) c5))) := (((Kept.of hA.drew).trans hk4).trans hk5).any _
  clear hr4 ho4 hk4 hk5 hb4 h1 h2 hg4 n4 hnb hA m1
  go_enter Try.func40, Try.ntmps40
  go_wp2
  rw [← hW1]
  clear hW1 hs1
  refine region_anyL (HeldL b (.slice (some ⟨g, 0, none⟩) l.length cap) g (q * 2 + 1) W.heap.size (.slice a4 sn c4) 0 0 x t) 20 (by kernel_rfl) ?_
  refine anyL_tk (i := 0) (v := ?v0_1) aZ0 (by kernel_rfl) ?y0_1 HS ?r0_1
  case y0_1 => intro wx hx; obtain ⟨h1, h2, h3, h4, h5, h6⟩ := hx; go_simp; try (with_reducible rfl)
  simp only [Act.put, List.setIfInBounds_toArray, List.set_cons_zero, List.set_cons_succ]
  refine anyL_tk (i := 1) (v := ?v1_2) aZ1 (by kernel_rfl) ?y1_2 HS ?r1_2
  case y1_2 => intro wx hx; obtain ⟨h1, h2, h3, h4, h5, h6⟩ := hx; go_simp; try (with_reducible rfl)
  simp only [Act.put, List.setIfInBounds_toArray, List.set_cons_zero, List.set_cons_succ]
  refine anyL_tk (i := 2) (v := ?v2_3) aZ2 (by kernel_rfl) ?y2_3 HS ?r2_3
  case y2_3 => intro wx hx; obtain ⟨h1, h2, h3, h4, h5, h6⟩ := hx; go_simp; try (with_reducible rfl)
  simp only [Act.put, List.setIfInBounds_toArray, List.set_cons_zero, List.set_cons_succ]
  refine anyL_tk (i := 3) (v := ?v3_4) aZ3 (by kernel_rfl) ?y3_4 HS ?r3_4
  case y3_4 => intro wx hx; obtain ⟨h1, h2, h3, h4, h5, h6⟩ := hx; go_simp; try (with_reducible rfl)
  simp only [Act.put, List.setIfInBounds_toArray, List.set_cons_zero, List.set_cons_succ]
  refine anyL_tk (i := 4) (v := ?v4_5) aZ4 (by kernel_rfl) ?y4_5 HS ?r4_5
  case y4_5 => intro wx hx; obtain ⟨h1, h2, h3, h4, h5, h6⟩ := hx; go_simp; try (with_reducible rfl)
  simp only [Act.put, List.setIfInBounds_toArray, List.set_cons_zero, List.set_cons_succ]
  refine anyL_tk (i := 5) (v := ?v5_6) aZ5 (by kernel_rfl) ?y5_6 HS ?r5_6
  case y5_6 => intro wx hx; obtain ⟨h1, h2, h3, h4, h5, h6⟩ := hx; go_simp; try (with_reducible rfl)
  simp only [Act.put, List.setIfInBounds_toArray, List.set_cons_zero, List.set_cons_succ]
  refine anyL_tk (i := 6) (v := ?v6_7) aZ6 (by kernel_rfl) ?y6_7 HS ?r6_7
  case y6_7 => intro wx hx; obtain ⟨h1, h2, h3, h4, h5, h6⟩ := hx; go_simp; try (with_reducible rfl)
  simp only [Act.put, List.setIfInBounds_toArray, List.set_cons_zero, List.set_cons_succ]
  refine anyL_tk (i := 7) (v := ?v7_8) aZ7 (by kernel_rfl) ?y7_8 HS ?r7_8
  case y7_8 => intro wx hx; obtain ⟨h1, h2, h3, h4, h5, h6⟩ := hx; go_simp; try (with_reducible rfl)
  simp only [Act.put, List.setIfInBounds_toArray, List.set_cons_zero, List.set_cons_succ]
  refine anyL_tk (i := 8) (v := ?v8_9) aZ8 (by kernel_rfl) ?y8_9 HS ?r8_9
  case y8_9 => intro wx hx; obtain ⟨h1, h2, h3, h4, h5, h6⟩ := hx; go_simp; try (with_reducible rfl)
  simp only [Act.put, List.setIfInBounds_toArray, List.set_cons_zero, List.set_cons_succ]
  refine anyL_tk (i := 9) (v := ?v9_10) aZ9 (by kernel_rfl) ?y9_10 HS ?r9_10
  case y9_10 => intro wx hx; obtain ⟨h1, h2, h3, h4, h5, h6⟩ := hx; go_simp; try (with_reducible rfl)
  simp only [Act.put, List.setIfInBounds_toArray, List.set_cons_zero, List.set_cons_succ]
  refine anyL_tk (i := 10) (v := ?v10_11) aZ10 (by kernel_rfl) ?y10_11 HS ?r10_11
  case y10_11 => intro wx hx; obtain ⟨h1, h2, h3, h4, h5, h6⟩ := hx; go_simp; try (with_reducible rfl)
  simp only [Act.put, List.setIfInBounds_toArray, List.set_cons_zero, List.set_cons_succ]
  refine anyL_tk (i := 11) (v := ?v11_12) aZ11 (by kernel_rfl) ?y11_12 HS ?r11_12
  case y11_12 => intro wx hx; obtain ⟨h1, h2, h3, h4, h5, h6⟩ := hx; go_simp; try (with_reducible rfl)
  simp only [Act.put, List.setIfInBounds_toArray, List.set_cons_zero, List.set_cons_succ]
  refine anyL_tk (i := 12) (v := ?v12_13) aZ12 (by kernel_rfl) ?y12_13 HS ?r12_13
  case y12_13 => intro wx hx; obtain ⟨h1, h2, h3, h4, h5, h6⟩ := hx; go_simp; try (with_reducible rfl)
  simp only [Act.put, List.setIfInBounds_toArray, List.set_cons_zero, List.set_cons_succ]
  refine anyL_tk (i := 13) (v := ?v13_14) aZ13 (by kernel_rfl) ?y13_14 HS ?r13_14
  case y13_14 => intro wx hx; obtain ⟨h1, h2, h3, h4, h5, h6⟩ := hx; go_simp; try (with_reducible rfl)
  simp only [Act.put, List.setIfInBounds_toArray, List.set_cons_zero, List.set_cons_succ]
  refine anyL_tk (i := 14) (v := ?v14_15) aZ14 (by kernel_rfl) ?y14_15 HS ?r14_15
  case y14_15 => intro wx hx; obtain ⟨h1, h2, h3, h4, h5, h6⟩ := hx; go_simp; try (with_reducible rfl)
  simp only [Act.put, List.setIfInBounds_toArray, List.set_cons_zero, List.set_cons_succ]
  refine anyL_tk (i := 15) (v := ?v15_16) aZ15 (by kernel_rfl) ?y15_16 HS ?r15_16
  case y15_16 => intro wx hx; obtain ⟨h1, h2, h3, h4, h5, h6⟩ := hx; go_simp; try (with_reducible rfl)
  simp only [Act.put, List.setIfInBounds_toArray, List.set_cons_zero, List.set_cons_succ]
  refine anyL_one (i := 16) aZ16 (by kernel_rfl) rfl (fun K hK => ?_)
  go_simp
  refine hK _ _ (.inr HSA) ?_
  try simp only [Act.put, List.setIfInBounds_toArray, List.set_cons_zero, List.set_cons_succ]
  refine anyL_one (i := 17) aZ17 (by kernel_rfl) rfl (fun K hK => ?_)
  refine wp_append_run (.tmp 28) (.tmp 30) 54 rfl rfl rfl R4.out ?_
  refine hK _ _ (.inr HS4) ?_
  try simp only [Act.put, List.setIfInBounds_toArray, List.set_cons_zero, List.set_cons_succ]
  refine anyL_one (i := 18) aZ18 (by kernel_rfl) rfl (fun K hK => ?_)
  go_simp
  refine hK _ _ (.inr HS4) ?_
  try simp only [Act.put, List.setIfInBounds_toArray, List.set_cons_zero, List.set_cons_succ]
  refine anyL_tk (i := 19) (v := ?v19_17) aZ19 (by kernel_rfl) ?y19_17 HS4 ?r19_17
  case y19_17 => intro wx hx; obtain ⟨h1, h2, h3, h4, h5, h6⟩ := hx; go_simp; try (with_reducible rfl)
  simp only [Act.put, List.setIfInBounds_toArray, List.set_cons_zero, List.set_cons_succ]
  refine anyL_one (i := 20) aZ20 (by kernel_rfl) rfl (fun K hK => ?_)
  go_simp
  refine hK _ _ (.inl rfl) (anyL_done (by kernel_rfl) (NoPanic.normal ?_))
  try simp only [Act.put, List.setIfInBounds_toArray, List.set_cons_zero, List.set_cons_succ]
  clear HS HSA HS4 hc4 hf4
  go_wp2
  go_end0
  refine ⟨rfl, ⟨_, HM5.out, ?_⟩, HW5.out, HK5.out⟩
  rw [hr.out]
  exact HO4.out
end Go.Proofs.Ytfpibdaedfilaaa.Wt
