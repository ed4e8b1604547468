/- States of the call's own whose rows of arcs lie apart: one state more, one arc more at the last one. States of the call's own whose rows of arcs lie apart: a state with arcs more; an arc more, another end, at any place. The program's builder of machines: arcs moved, a first state, an empty arc more. The program's builder of machines: all states of a machine behind those that are there. The program's builder of machines: ends that lead on, what is built, two machines checked. The program: one or the other, one behind the other, again and again. -/
import Derived.Test.YtnbiojjcebdljaaKs
import Derived.Test.YtnbiojjcebdljaaSg
import Derived.Test.YtnbiojjcebdljaaRn
import Derived.Test.YtnbiojjcebdljaaJ12b
namespace Go.Proofs.Ytnbiojjcebdljaa.Wt
open Go.ChangeShapes Go.WideShapes Go.ChangeAt Go.RowKit
open Go.Proofs.Ytnbiojjcebdljaa.Pl
set_option linter.unusedVariables false
set_option linter.unusedSimpArgs false
def Apt (a b : Value) : Prop := a.ownBlock = none ∨ a.ownBlock ≠ b.ownBlock
theorem Apt.symm {a b : Value} (h : Apt a b) : Apt b a := by
  rcases h with h | h
  · unfold Apt; rw [h]; rcases b.ownBlock with _ | _ <;> simp
  · exact .inr (Ne.symm h)
theorem Apt.near {w : World} {a b b' : Value} {base : Nat} {e : TypeId} {s n : Nat} {xs : List Value} (h : Apt a b) (ho : w.ownsRow base e s a n xs) (hn : Near w b.ownBlock b') : Apt a b' := by
  rcases hn with e | ⟨c, e, hc⟩
  · unfold Apt at *; rw [e]; exact h
  · rcases ha : a.ownBlock with _ | k
    · exact .inl ha
    · refine .inr ?_
      rw [ha, e]
      have := (ho.lt k ha).2
      intro e2; simp at e2; omega
def OwnApt (w : World) (base : Nat) (v : Value) (l : List St) : Prop :=
  ∃ vs : List (Int × Value), w.ownsRow base 40 2 v vs.length (vs.flatMap encS) ∧ vs.length = l.length ∧ (∀ j, j < l.length → (el vs j).1 = (el l j).1 ∧ w.ownsRow base 46 4 (el vs j).2 (el l j).2.length ((el l j).2.flatMap encA)) ∧ ∀ i j, i < l.length → j < l.length → i ≠ j → Apt (el vs i).2 (el vs j).2
theorem OwnApt.own {w : World} {base : Nat} {v : Value} {l : List St} (h : OwnApt w base v l) : OwnSts w base v l := by
  obtain ⟨vs, h1, h2, h3, _⟩ := h
  exact ⟨vs, h1, h2, h3⟩
theorem OwnApt.nil (w : World) (base : Nat) : OwnApt w base (.slice none 0 0) [] := ⟨[], World.ownsRow_nil _ _ _ _, rfl, by simp, by simp⟩
theorem OwnApt.later {w w' : World} {base : Nat} {v : Value} {l : List St} (h : OwnApt w base v l) (hb : Below w.heap.size w w') : OwnApt w' base v l := by
  obtain ⟨vs, h1, h2, h3, h4⟩ := h
  exact ⟨vs, ownBelow h1 hb, h2, fun j hj => ⟨(h3 j hj).1, ownBelow (h3 j hj).2 hb⟩, h4⟩
theorem OwnApt.setCell {w : World} {base : Nat} {v : Value} {l : List St} (h : OwnApt w base v l) {a : Addr} (ha : a.block < base) (u : Value) : OwnApt (w.setCell a u) base v l := by
  obtain ⟨vs, h1, h2, h3, h4⟩ := h
  exact ⟨vs, ownsRow_setCell_below h1 ha u, h2, fun j hj => ⟨(h3 j hj).1, ownsRow_setCell_below (h3 j hj).2 ha u⟩, h4⟩
theorem OwnApt.sl {w : World} {base : Nat} {v : Value} {l : List St} (h : OwnApt w base v l) : ∃ a c, v = .slice a l.length c := by
  obtain ⟨vs, h1, h2, _⟩ := h
  obtain ⟨a, c, hv⟩ := own_sl h1
  exact ⟨a, c, by rw [hv, h2]⟩
/-- append(l, State{Final: f}). -/
theorem OwnApt.push {w1 : World} {base : Nat} {vo : Value} {l : List St} (hown : OwnApt w1 base vo l) (f : Int) (hl : (l.length + 1) * 32 ≤ 140737488355328) (hbase : base ≤ w1.heap.size) :
    ∃ a3 c3 w3, (Builtin.append_ #[26, 26] 26 #[vo, .slice (some ⟨w1.heap.size, 0, none⟩) 1 1]).run Try.prog (w1.alloc (.cells #[.int .i64 f, .slice none 0 0] 40)) = .ok (.slice a3 (l.length + 1) c3) w3 ∧ OwnApt w3 base (.slice a3 (l.length + 1) c3) (l ++ [(f, [])]) ∧ Below base w1 w3 := by
  obtain ⟨i1, hi1, hy0, hy1, hy2⟩ := info_parts infoState
  obtain ⟨vs, q1, q2, q3, q4⟩ := hown
  generalize hW : w1.alloc (.cells #[.int .i64 f, .slice none 0 0] 40) = W
  have hB : Below w1.heap.size w1 W := by rw [← hW]; exact (Below.refl _ _).alloc (Nat.le_refl _) _
  have e0 : W.heap[w1.heap.size]? = some (.cells #[.int .i64 f, .slice none 0 0] 40 (0, 0)) := by rw [← hW]; exact Blk.made w1 _ _
  have hws : W.heap.size = w1.heap.size + 1 := by rw [← hW]; simp
  have hvo := ownBelow q1 hB
  obtain ⟨v3, w3, hr, h1, h2, _⟩ := run_append_own (P := Try.prog) W base 26 26 40 i1 _ 2 32 Try.underlying26 hi1 hy0 hy1 hy2 rfl (by omega) vo vs.length (vs.flatMap encS) hvo ⟨w1.heap.size, 0, none⟩ 1 1 [.int .i64 f, .slice none 0 0] rfl (World.news_of_block (cs := #[.int .i64 f, .slice none 0 0]) e0) (by
    intro u hu
    simp at hu
    rcases hu with rfl | rfl <;> rfl) (by rw [q2]; unfold maxLen; omega) (by rw [q2]; exact hl) (by omega)
  have hb3 : Below base w1 w3 := (hB.mono hbase).trans ((Below.refl _ _).grown h2 (by omega) (fun k hk => (q1.lt k hk).1))
  obtain ⟨a3, c3, hv3⟩ := own_sl h1
  rw [q2] at hv3
  subst hv3
  refine ⟨a3, c3, w3, hr, ⟨vs ++ [(f, .slice none 0 0)], by simpa [encS] using h1, by simp [q2], ?_, ?_⟩, hb3⟩
  · intro j hj
    have hj' : j < l.length ∨ j = l.length := by simp at hj; omega
    rcases hj' with hj' | rfl
    · rw [el_left (by omega), el_left hj']
      have := ownBelow (q3 j hj').2 hB
      exact ⟨(q3 j hj').1, this.kept h2 (own_apart this hvo (by decide))⟩
    · rw [el_last, ← q2, el_last]
      exact ⟨rfl, World.ownsRow_nil _ _ _ _⟩
  · intro i j hi hj hij
    have hi' : i < l.length ∨ i = l.length := by simp at hi; omega
    have hj' : j < l.length ∨ j = l.length := by simp at hj; omega
    rcases hi' with hi' | rfl
    · rcases hj' with hj' | rfl
      · rw [el_left (by omega), el_left (by omega)]; exact q4 i j hi' hj' hij
      · rw [← q2, el_last]; exact Apt.symm (.inl rfl)
    · rw [← q2, el_last]; exact .inl rfl
/-- The last state's arcs: l[last].Arcs = append(l[last].Arcs, c). -/
theorem OwnApt.arc {w : World} {base : Nat} {v : Value} {t : List St} {s : St} (h : OwnApt w base v (t ++ [s])) (hbase : base ≤ w.heap.size) (c : Ar) (hl : (s.2.length + 1) * 32 ≤ 140737488355328) :
    ∃ g cap a4 c4, v = .slice (some ⟨g, 0, none⟩) (t.length + 1) cap ∧ base ≤ g ∧ g < w.heap.size ∧ w.cell? ⟨g, t.length * 2 + 1, none⟩ = some (.slice a4 s.2.length c4) ∧
      ∃ a5 c5 w4, (Builtin.append_ #[38, 38] 38 #[.slice a4 s.2.length c4, .slice (some ⟨w.heap.size, 0, none⟩) 1 1]).run Try.prog (w.alloc (.cells #[.int .i64 c.1, .int .i64 c.2.1, .int .i64 c.2.2.1, .int .i64 c.2.2.2] 46)) = .ok (.slice a5 (s.2.length + 1) c5) w4 ∧
        w4.cell? ⟨g, t.length * 2 + 1, none⟩ = some (.slice a4 s.2.length c4) ∧ w4.frozen? ⟨g, t.length * 2 + 1, none⟩ = false ∧ Below base w w4 ∧
        OwnApt (w4.setCell ⟨g, t.length * 2 + 1, none⟩ (.slice a5 (s.2.length + 1) c5)) base v (t ++ [(s.1, s.2 ++ [c])]) := by
  obtain ⟨i1, hi1, hy0, hy1, hy2⟩ := info_parts infoArc
  obtain ⟨vs, q1, q2, q3, q4⟩ := h
  have hlen : vs.length = t.length + 1 := by rw [q2]; simp
  have hq : t.length < vs.length := by omega
  have hqs : el (t ++ [s]) t.length = s := el_last t s
  have h3 := (q3 t.length (by simp)).2
  rw [hqs] at h3
  obtain ⟨a4, c4, hva⟩ := own_sl h3
  rcases q1.2 with ⟨_, h0⟩ | ⟨g, cap, cur, hv, hbg, hg, hnc, hcm, hcs, htake⟩
  · omega
  have hgl : g < w.heap.size := Blk.lt (t := 40) hg
  have hvb : v.ownBlock = some g := by rw [hv]; rfl
  have hcell : w.cell? ⟨g, t.length * 2 + 1, none⟩ = some (el vs t.length).2 := by
    have h9 := q1.cells hvb (t.length * 2 + 1) (el vs t.length).2 (by rw [flat_at encS_len vs t.length hq 1 (by omega)]; rfl)
    rw [Addr.add_lit, Nat.zero_add] at h9
    exact h9
  generalize hW : w.alloc (.cells #[.int .i64 c.1, .int .i64 c.2.1, .int .i64 c.2.2.1, .int .i64 c.2.2.2] 46) = W
  have hB : Below w.heap.size w W := by rw [← hW]; exact (Below.refl _ _).alloc (Nat.le_refl _) _
  have hws : W.heap.size = w.heap.size + 1 := by rw [← hW]; simp
  have hrow : Row 4 encA W (.slice (some ⟨w.heap.size, 0, none⟩) 1 1) [c] := by rw [← hW]; exact oneRow (enc := encA) w c rfl 46
  have h3W := ownBelow h3 hB
  obtain ⟨v4, w4, r4, ho4, hg4, hn4⟩ := run_append_spot (P := Try.prog) (w := W) encA_len (by decide) encA_one 38 38 base 46 i1 _ 32 Try.underlying38 hi1 hy0 hy1 hy2 rfl _ s.2.length (s.2.flatMap encA) h3W _ [c] hrow (by simp; unfold maxLen; omega) (by simpa using hl) (by omega)
  have hb4 : Below base w w4 := (hB.mono hbase).trans ((Below.refl _ _).grown hg4 (by omega) (fun k hk => (h3.lt k hk).1))
  have hne : (el vs t.length).2.ownBlock ≠ some g := by
    rcases own_apart h3 q1 (by decide) with e | e
    · rw [e]; simp
    · rw [← hvb]; exact e
  have hblk : w4.heap[g]? = w.heap[g]? := (hg4.block g (by omega) (Ne.symm hne)).trans (hB.block g hgl)
  have hcell4 : w4.cell? ⟨g, t.length * 2 + 1, none⟩ = some (el vs t.length).2 := (World.cell?_of_block hblk).trans hcell
  have hfz4 : w4.frozen? ⟨g, t.length * 2 + 1, none⟩ = false := (World.frozen?_of_block hblk).trans (Blk.fz (t := 40) hg _)
  obtain ⟨a5, c5, hv5⟩ := own_sl ho4
  have q1' : w4.ownsRow base 40 2 v vs.length (vs.flatMap encS) := (ownBelow q1 hB).kept hg4 (by rw [hvb]; exact .inr (Ne.symm hne))
  refine ⟨g, cap, a4, c4, by rw [hv, hlen], hbg, hgl, by rw [hcell, hva], a5, c5, w4, ?_, by rw [hcell4, hva], hfz4, hb4, ?_⟩
  · rw [← hva, r4, hv5]; simp
  · have hvx : v4 = .slice a5 (s.2.length + 1) c5 := by rw [hv5]; simp
    rw [← hvx]
    have q1s := q1'
    rw [hv] at q1s
    have hs := (q1s.stored (t.length * 2 + 1) v4).1
    rw [flat_set hq] at hs
    refine ⟨vs.set t.length ((el vs t.length).1, v4), by rw [List.length_set, hv]; exact hs, by simp [q2], ?_, ?_⟩
    · intro j hj
      have hj' : j < t.length ∨ j = t.length := by simp at hj; omega
      rw [Pl.el_set (by omega)]
      rcases hj' with hj' | rfl
      · rw [if_neg (by omega), el_left hj']
        have h5 := q3 j (by simp; omega)
        rw [el_left hj'] at h5
        have h6 := (ownBelow h5.2 hB).kept hg4 (q4 j t.length (by simp; omega) (by simp) (by omega))
        refine ⟨h5.1, ownsRow_setCell_other (a := ⟨g, t.length * 2 + 1, none⟩) h6 ?_ _⟩
        rcases own_apart h6 q1' (by decide) with e | e
        · rw [e]; simp
        · rw [← hvb]; exact e
      · rw [if_pos rfl, el_last]
        have h5 := (q3 t.length (by simp)).1
        rw [hqs] at h5
        refine ⟨h5, ?_⟩
        have h6 : w4.ownsRow base 46 4 v4 (s.2 ++ [c]).length ((s.2 ++ [c]).flatMap encA) := by rw [List.length_append, List.flatMap_append]; exact ho4
        refine ownsRow_setCell_other (a := ⟨g, t.length * 2 + 1, none⟩) h6 ?_ _
        rcases own_apart h6 q1' (by decide) with e | e
        · rw [e]; simp
        · rw [← hvb]; exact e
    · intro i j hi hj hij
      have hi' : i < t.length ∨ i = t.length := by simp at hi; omega
      have hj' : j < t.length ∨ j = t.length := by simp at hj; omega
      rw [Pl.el_set (j := i) (by omega), Pl.el_set (j := j) (by omega)]
      rcases hi' with hi' | rfl
      · rw [if_neg (by omega)]
        rcases hj' with hj' | rfl
        · rw [if_neg (by omega)]; exact q4 i j (by simp; omega) (by simp; omega) hij
        · rw [if_pos rfl]
          exact (q4 i t.length (by simp; omega) (by simp) hij).near (ownBelow (q3 i (by simp; omega)).2 hB) hn4
      · rw [if_pos rfl]
        rcases hj' with hj' | rfl
        · rw [if_neg (by omega)]
          exact ((q4 j t.length (by simp; omega) (by simp) (by omega)).near (ownBelow (q3 j (by simp; omega)).2 hB) hn4).symm
        · exact absurd rfl hij
end Go.Proofs.Ytnbiojjcebdljaa.Wt
namespace Go.Proofs.Ytnbiojjcebdljaa.Wt
open Go.ChangeShapes Go.WideShapes Go.ChangeAt Go.RowKit
open Go.Proofs.Ytnbiojjcebdljaa.Pl
set_option linter.unusedVariables false
set_option linter.unusedSimpArgs false
/-- Blocks that hold no states and no arcs are as they were, but for block M. -/
def Kept (M : Option Nat) (w w' : World) : Prop := w.heap.size ≤ w'.heap.size ∧ ∀ (k : Nat) (o : Obj), w.heap[k]? = some o → some k ≠ M → (∀ (cs : Array Value) (T : TypeId) (fr : Nat × Nat), o = .cells cs T fr → T ≠ 40 ∧ T ≠ 46) → w'.heap[k]? = some o
theorem Kept.refl (M : Option Nat) (w : World) : Kept M w w := ⟨Nat.le_refl _, fun _ _ h _ _ => h⟩
theorem Kept.trans {M : Option Nat} {w w' w2 : World} (h : Kept M w w') (h2 : Kept M w' w2) : Kept M w w2 := ⟨Nat.le_trans h.1 h2.1, fun k o e a b => h2.2 k o (h.2 k o e a b) a b⟩
theorem Kept.any {w w' : World} (h : Kept none w w') (M : Option Nat) : Kept M w w' := ⟨h.1, fun k o e _ b => h.2 k o e (by simp) b⟩
theorem Kept.of {w w' : World} (h : Below w.heap.size w w') : Kept none w w' := ⟨h.size, fun k o e _ _ => (h.block k (lt_of_block e)).trans e⟩
theorem Kept.setM (w : World) (M o : Nat) (v : Value) : Kept (some M) w (w.setCell ⟨M, o, none⟩ v) := ⟨by simp [World.setCell], fun k ob e a _ => (Below.heap_setCell w ⟨M, o, none⟩ v k (fun h => a (by rw [h]))).trans e⟩
theorem Kept.setT {w : World} {g o : Nat} {v : Value} {cs : Array Value} {fr : Nat × Nat} (hg : w.heap[g]? = some (.cells cs 40 fr)) : Kept none w (w.setCell ⟨g, o, none⟩ v) := ⟨by simp [World.setCell], fun k ob e _ b => by
  by_cases hk : k = g
  · subst hk
    rw [hg] at e
    exact absurd rfl (b _ _ _ (Option.some.inj e).symm).1
  · exact (Below.heap_setCell w ⟨g, o, none⟩ v k hk).trans e⟩
theorem Kept.grown {w w' : World} {B s n : Nat} {T : TypeId} {v : Value} {xs : List Value} (ho : w.ownsRow B T s v n xs) (hT : T = 40 ∨ T = 46) (hg : w.grownBy w' v.ownBlock) : Kept none w w' := ⟨hg.size, fun k ob e _ b => by
  refine (hg.block k (lt_of_block e) (fun h => ?_)).trans e
  rcases ho.2 with ⟨hv, _⟩ | ⟨g, cap, cur, hv, _, hgb, _⟩
  · rw [hv] at h; simp [Value.ownBlock] at h
  · rw [hv] at h
    simp only [Value.ownBlock, Option.some.injEq] at h
    subst h
    rw [hgb] at e
    have := b _ _ _ (Option.some.inj e).symm
    rcases hT with h | h
    · exact this.1 h
    · exact this.2 h⟩
theorem Kept.blk {M : Option Nat} {w w' : World} {b : Nat} {cs : Array Value} {t : TypeId} (h : Kept M w w') (hb : Blk w b cs t) (hM : some b ≠ M) (h1 : t ≠ 40) (h2 : t ≠ 46) : Blk w' b cs t :=
  h.2 b _ hb hM (fun cs' T fr e => by injection e with _ e2 _; subst e2; exact ⟨h1, h2⟩)
theorem flat_set0 {vs : List (Int × Value)} {q : Nat} (hq : q < vs.length) (f : Int) : (vs.flatMap encS).set (q * 2) (.int .i64 f) = (vs.set q (f, (el vs q).2)).flatMap encS := by
  have hl : (vs.flatMap encS).length = vs.length * 2 := flat_length encS_len vs
  apply List.ext_getElem?
  intro t
  by_cases ht : t < vs.length * 2
  · have he : t / 2 * 2 + t % 2 = t := by omega
    have h1 := flat_at encS_len vs (t / 2) (by omega) (t % 2) (by omega)
    have h2 := flat_at encS_len (vs.set q (f, (el vs q).2)) (t / 2) (by simp; omega) (t % 2) (by omega)
    rw [he] at h1 h2
    rw [h2, List.getElem?_set, Pl.el_set (by omega)]
    by_cases hq2 : q = t / 2
    · rw [if_pos hq2]
      have h01 : t = q * 2 ∨ t = q * 2 + 1 := by omega
      rcases h01 with h | h
      · have e0 : t % 2 = 0 := by omega
        rw [if_pos h.symm, if_pos (by omega), e0]; rfl
      · have e0 : t % 2 = 1 := by omega
        rw [if_neg (by omega), h1, ← hq2, e0]; rfl
    · rw [if_neg hq2, if_neg (by omega), h1]
  · rw [List.getElem?_eq_none (by rw [List.length_set, hl]; omega), List.getElem?_eq_none (by rw [flat_length encS_len, List.length_set]; omega)]
/-- append(l, State{Final: f, Arcs: va}), the arcs newer than all that is there. -/
theorem OwnApt.pushA {W w5 : World} {base : Nat} {vo va : Value} {l : List St} {ar : List Ar} (h : OwnApt W base vo l) (hb : Below W.heap.size W w5) (hva : w5.ownsRow W.heap.size 46 4 va ar.length (ar.flatMap encA)) (f : Int) (hl : (l.length + 1) * 32 ≤ 140737488355328) (hbase : base ≤ W.heap.size) :
    ∃ a3 c3 w6, (Builtin.append_ #[26, 26] 26 #[vo, .slice (some ⟨w5.heap.size, 0, none⟩) 1 1]).run Try.prog (w5.alloc (.cells #[.int .i64 f, va] 40)) = .ok (.slice a3 (l.length + 1) c3) w6 ∧ OwnApt w6 base (.slice a3 (l.length + 1) c3) (l ++ [(f, ar)]) ∧ Below base w5 w6 ∧ Kept none w5 w6 ∧ (w5.alloc (.cells #[.int .i64 f, va] 40)).grownBy w6 vo.ownBlock := by
  obtain ⟨i1, hi1, hy0, hy1, hy2⟩ := info_parts infoState
  obtain ⟨vs, q1, q2, q3, q4⟩ := h
  have hs5 := hb.size
  generalize hW : w5.alloc (.cells #[.int .i64 f, va] 40) = W2
  have hB5 : Below w5.heap.size w5 W2 := by rw [← hW]; exact (Below.refl _ _).alloc (Nat.le_refl _) _
  have hB : Below W.heap.size W W2 := hb.trans (hB5.mono hs5)
  have e0 : W2.heap[w5.heap.size]? = some (.cells #[.int .i64 f, va] 40 (0, 0)) := by rw [← hW]; exact Blk.made w5 _ _
  have hws : W2.heap.size = w5.heap.size + 1 := by rw [← hW]; simp
  have hvo := ownBelow q1 hB
  have hvaW := ownBelow hva hB5
  obtain ⟨v3, w3, hr, h1, h2, _⟩ := run_append_own (P := Try.prog) W2 base 26 26 40 i1 _ 2 32 Try.underlying26 hi1 hy0 hy1 hy2 rfl (by omega) vo vs.length (vs.flatMap encS) hvo ⟨w5.heap.size, 0, none⟩ 1 1 [.int .i64 f, va] rfl (World.news_of_block (cs := #[.int .i64 f, va]) e0) (by
    intro u hu
    simp at hu
    rcases hu with rfl | rfl
    · rfl
    · exact own_one hva) (by rw [q2]; unfold maxLen; omega) (by rw [q2]; exact hl) (by omega)
  have hb3 : Below base w5 w3 := (hB5.mono (by omega)).trans ((Below.refl _ _).grown h2 (by omega) (fun k hk => (q1.lt k hk).1))
  have hk3 : Kept none w5 w3 := (Kept.of hB5).trans (Kept.grown hvo (.inl rfl) h2)
  obtain ⟨a3, c3, hv3⟩ := own_sl h1
  rw [q2] at hv3
  subst hv3
  refine ⟨a3, c3, w3, hr, ⟨vs ++ [(f, va)], by simpa [encS] using h1, by simp [q2], ?_, ?_⟩, hb3, hk3, h2⟩
  · intro j hj
    have hj' : j < l.length ∨ j = l.length := by simp at hj; omega
    rcases hj' with hj' | rfl
    · rw [el_left (by omega), el_left hj']
      have := ownBelow (q3 j hj').2 hB
      exact ⟨(q3 j hj').1, this.kept h2 (own_apart this hvo (by decide))⟩
    · rw [el_last, ← q2, el_last]
      exact ⟨rfl, ownMono (hvaW.kept h2 (own_apart hvaW hvo (by decide))) hbase⟩
  · have hnew : ∀ i, i < l.length → Apt (el vs i).2 va := fun i hi => by
      rcases ha : (el vs i).2.ownBlock with _ | k
      · exact .inl ha
      · refine .inr ?_
        rw [ha]
        intro e
        have h8 := ((q3 i hi).2.lt k ha).2
        have h9 := (hva.lt k e.symm).1
        omega
    intro i j hi hj hij
    have hi' : i < l.length ∨ i = l.length := by simp at hi; omega
    have hj' : j < l.length ∨ j = l.length := by simp at hj; omega
    rcases hi' with hi' | rfl
    · rcases hj' with hj' | rfl
      · rw [el_left (by omega), el_left (by omega)]; exact q4 i j hi' hj' hij
      · rw [el_left (by omega), ← q2, el_last]; exact hnew i hi'
    · rcases hj' with hj' | rfl
      · rw [el_left (l := vs) (j := j) (by omega), ← q2, el_last]; exact (hnew j hj').symm
      · exact absurd rfl hij
/-- l[q].Arcs = append(l[q].Arcs, c), at any place. -/
theorem OwnApt.arcAt {w : World} {base : Nat} {v : Value} {l : List St} (h : OwnApt w base v l) (hbase : base ≤ w.heap.size) (q : Nat) (hq : q < l.length) (c : Ar) (hl : ((el l q).2.length + 1) * 32 ≤ 140737488355328) :
    ∃ g cap a4 c4, v = .slice (some ⟨g, 0, none⟩) l.length cap ∧ base ≤ g ∧ g < w.heap.size ∧ w.cell? ⟨g, q * 2 + 1, none⟩ = some (.slice a4 (el l q).2.length c4) ∧
      ∃ a5 c5 w4, (Builtin.append_ #[38, 38] 38 #[.slice a4 (el l q).2.length c4, .slice (some ⟨w.heap.size, 0, none⟩) 1 1]).run Try.prog (w.alloc (.cells #[.int .i64 c.1, .int .i64 c.2.1, .int .i64 c.2.2.1, .int .i64 c.2.2.2] 46)) = .ok (.slice a5 ((el l q).2.length + 1) c5) w4 ∧
        w4.cell? ⟨g, q * 2 + 1, none⟩ = some (.slice a4 (el l q).2.length c4) ∧ w4.frozen? ⟨g, q * 2 + 1, none⟩ = false ∧ Below base w w4 ∧
        OwnApt (w4.setCell ⟨g, q * 2 + 1, none⟩ (.slice a5 ((el l q).2.length + 1) c5)) base v (l.set q ((el l q).1, (el l q).2 ++ [c])) ∧ Kept none w w4 ∧ Kept none w4 (w4.setCell ⟨g, q * 2 + 1, none⟩ (.slice a5 ((el l q).2.length + 1) c5)) ∧ (w.alloc (.cells #[.int .i64 c.1, .int .i64 c.2.1, .int .i64 c.2.2.1, .int .i64 c.2.2.2] 46)).grownBy w4 (Value.slice a4 (el l q).2.length c4).ownBlock := by
  obtain ⟨i1, hi1, hy0, hy1, hy2⟩ := info_parts infoArc
  obtain ⟨vs, q1, q2, q3, q4⟩ := h
  have hqv : q < vs.length := by omega
  have h3 := (q3 q hq).2
  obtain ⟨a4, c4, hva⟩ := own_sl h3
  rcases q1.2 with ⟨_, h0⟩ | ⟨g, cap, cur, hv, hbg, hg, hnc, hcm, hcs, htake⟩
  · omega
  have hgl : g < w.heap.size := Blk.lt (t := 40) hg
  have hvb : v.ownBlock = some g := by rw [hv]; rfl
  have hcell : w.cell? ⟨g, q * 2 + 1, none⟩ = some (el vs q).2 := by
    have h9 := q1.cells hvb (q * 2 + 1) (el vs q).2 (by rw [flat_at encS_len vs q hqv 1 (by omega)]; rfl)
    rw [Addr.add_lit, Nat.zero_add] at h9
    exact h9
  generalize hW : w.alloc (.cells #[.int .i64 c.1, .int .i64 c.2.1, .int .i64 c.2.2.1, .int .i64 c.2.2.2] 46) = W
  have hB : Below w.heap.size w W := by rw [← hW]; exact (Below.refl _ _).alloc (Nat.le_refl _) _
  have hws : W.heap.size = w.heap.size + 1 := by rw [← hW]; simp
  have hrow : Row 4 encA W (.slice (some ⟨w.heap.size, 0, none⟩) 1 1) [c] := by rw [← hW]; exact oneRow (enc := encA) w c rfl 46
  have h3W := ownBelow h3 hB
  obtain ⟨v4, w4, r4, ho4, hg4, hn4⟩ := run_append_spot (P := Try.prog) (w := W) encA_len (by decide) encA_one 38 38 base 46 i1 _ 32 Try.underlying38 hi1 hy0 hy1 hy2 rfl _ (el l q).2.length ((el l q).2.flatMap encA) h3W _ [c] hrow (by simp; unfold maxLen; omega) (by simpa using hl) (by omega)
  have hb4 : Below base w w4 := (hB.mono hbase).trans ((Below.refl _ _).grown hg4 (by omega) (fun k hk => (h3.lt k hk).1))
  have hk4 : Kept none w w4 := (Kept.of hB).trans (Kept.grown h3W (.inr rfl) hg4)
  have hne : (el vs q).2.ownBlock ≠ some g := by
    rcases own_apart h3 q1 (by decide) with e | e
    · rw [e]; simp
    · rw [← hvb]; exact e
  have hblk : w4.heap[g]? = w.heap[g]? := (hg4.block g (by omega) (Ne.symm hne)).trans (hB.block g hgl)
  have hcell4 : w4.cell? ⟨g, q * 2 + 1, none⟩ = some (el vs q).2 := (World.cell?_of_block hblk).trans hcell
  have hfz4 : w4.frozen? ⟨g, q * 2 + 1, none⟩ = false := (World.frozen?_of_block hblk).trans (Blk.fz (t := 40) hg _)
  obtain ⟨a5, c5, hv5⟩ := own_sl ho4
  have q1' : w4.ownsRow base 40 2 v vs.length (vs.flatMap encS) := (ownBelow q1 hB).kept hg4 (by rw [hvb]; exact .inr (Ne.symm hne))
  refine ⟨g, cap, a4, c4, by rw [hv, q2], hbg, hgl, by rw [hcell, hva], a5, c5, w4, ?_, by rw [hcell4, hva], hfz4, hb4, ?_, hk4, Kept.setT (hblk.trans hg), by rw [← hva]; exact hg4⟩
  · rw [← hva, r4, hv5]; simp
  · have hvx : v4 = .slice a5 ((el l q).2.length + 1) c5 := by rw [hv5]; simp
    rw [← hvx]
    have q1s := q1'
    rw [hv] at q1s
    have hs := (q1s.stored (q * 2 + 1) v4).1
    rw [flat_set hqv] at hs
    refine ⟨vs.set q ((el vs q).1, v4), by rw [List.length_set, hv]; exact hs, by simp [q2], ?_, ?_⟩
    · intro j hj
      have hj' : j < l.length := by simpa using hj
      rw [Pl.el_set (by omega), Pl.el_set hj']
      by_cases e : q = j
      · subst e
        rw [if_pos rfl, if_pos rfl]
        refine ⟨(q3 q hq).1, ?_⟩
        have h6 : w4.ownsRow base 46 4 v4 ((el l q).2 ++ [c]).length (((el l q).2 ++ [c]).flatMap encA) := by rw [List.length_append, List.flatMap_append]; exact ho4
        refine ownsRow_setCell_other (a := ⟨g, q * 2 + 1, none⟩) h6 ?_ _
        rcases own_apart h6 q1' (by decide) with e | e
        · rw [e]; simp
        · rw [← hvb]; exact e
      · rw [if_neg e, if_neg e]
        have h5 := q3 j hj'
        have h6 := (ownBelow h5.2 hB).kept hg4 (q4 j q hj' hq (Ne.symm e))
        refine ⟨h5.1, ownsRow_setCell_other (a := ⟨g, q * 2 + 1, none⟩) h6 ?_ _⟩
        rcases own_apart h6 q1' (by decide) with e | e
        · rw [e]; simp
        · rw [← hvb]; exact e
    · intro i j hi hj hij
      have hi' : i < l.length := by simpa using hi
      have hj' : j < l.length := by simpa using hj
      rw [Pl.el_set (j := i) (by omega), Pl.el_set (j := j) (by omega)]
      by_cases ei : q = i
      · rw [if_pos ei, if_neg (by omega)]
        subst ei
        exact ((q4 j q hj' hq (Ne.symm hij)).near (ownBelow (q3 j hj').2 hB) hn4).symm
      · rw [if_neg ei]
        by_cases ej : q = j
        · rw [if_pos ej]
          subst ej
          exact (q4 i q hi' hq hij).near (ownBelow (q3 i hi').2 hB) hn4
        · rw [if_neg ej]; exact q4 i j hi' hj' hij
theorem OwnApt.lt {w : World} {base : Nat} {v : Value} {l : List St} (h : OwnApt w base v l) : ∀ k, v.ownBlock = some k → base ≤ k ∧ k < w.heap.size := by
  obtain ⟨vs, q1, _⟩ := h
  exact q1.lt
theorem OwnApt.rowLt {w : World} {base g n cap q : Nat} {l : List St} {va : Value} (h : OwnApt w base (.slice (some ⟨g, 0, none⟩) n cap) l) (hq : q < l.length) (hc : w.cell? ⟨g, q * 2 + 1, none⟩ = some va) : ∀ k, va.ownBlock = some k → base ≤ k ∧ k < w.heap.size := by
  obtain ⟨vs, q1, q2, q3, q4⟩ := h
  have h9 := q1.cells (g := g) rfl (q * 2 + 1) (el vs q).2 (by rw [flat_at encS_len vs q (by omega) 1 (by omega)]; rfl)
  rw [Addr.add_lit, Nat.zero_add, hc] at h9
  rw [Option.some.inj h9]
  exact (q3 q hq).2.lt
/-- l[q].Final = f. -/
theorem OwnApt.finAt {w : World} {base : Nat} {v : Value} {l : List St} (h : OwnApt w base v l) (q : Nat) (hq : q < l.length) (f : Int) :
    ∃ g cap, v = .slice (some ⟨g, 0, none⟩) l.length cap ∧ base ≤ g ∧ g < w.heap.size ∧ w.cell? ⟨g, q * 2, none⟩ = some (.int .i64 (el l q).1) ∧ w.frozen? ⟨g, q * 2, none⟩ = false ∧
        OwnApt (w.setCell ⟨g, q * 2, none⟩ (.int .i64 f)) base v (l.set q (f, (el l q).2)) ∧ Kept none w (w.setCell ⟨g, q * 2, none⟩ (.int .i64 f)) := by
  obtain ⟨vs, q1, q2, q3, q4⟩ := h
  have hqv : q < vs.length := by omega
  rcases q1.2 with ⟨_, h0⟩ | ⟨g, cap, cur, hv, hbg, hg, hnc, hcm, hcs, htake⟩
  · omega
  have hgl : g < w.heap.size := Blk.lt (t := 40) hg
  have hvb : v.ownBlock = some g := by rw [hv]; rfl
  have hcell : w.cell? ⟨g, q * 2, none⟩ = some (.int .i64 (el vs q).1) := by
    have h9 := q1.cells hvb (q * 2) (.int .i64 (el vs q).1) (by have := flat_at encS_len vs q hqv 0 (by omega); rw [Nat.add_zero] at this; rw [this]; rfl)
    rw [Addr.add_lit, Nat.zero_add] at h9
    exact h9
  refine ⟨g, cap, by rw [hv, q2], hbg, hgl, by rw [hcell, (q3 q hq).1], Blk.fz (t := 40) hg _, ?_, Kept.setT hg⟩
  have q1s := q1
  rw [hv] at q1s
  have hs := (q1s.stored (q * 2) (.int .i64 f)).1
  rw [flat_set0 hqv] at hs
  refine ⟨vs.set q (f, (el vs q).2), by rw [List.length_set, hv]; exact hs, by simp [q2], ?_, ?_⟩
  · intro j hj
    have hj' : j < l.length := by simpa using hj
    have h6 : (w.setCell ⟨g, q * 2, none⟩ (.int .i64 f)).ownsRow base 46 4 (el vs j).2 (el l j).2.length ((el l j).2.flatMap encA) := by
      refine ownsRow_setCell_other (a := ⟨g, q * 2, none⟩) (q3 j hj').2 ?_ _
      rcases own_apart (q3 j hj').2 q1 (by decide) with e | e
      · rw [e]; simp
      · rw [← hvb]; exact e
    rw [Pl.el_set (by omega), Pl.el_set hj']
    by_cases e : q = j
    · subst e
      rw [if_pos rfl, if_pos rfl]
      exact ⟨rfl, h6⟩
    · rw [if_neg e, if_neg e]
      exact ⟨(q3 j hj').1, h6⟩
  · intro i j hi hj hij
    have hi' : i < l.length := by simpa using hi
    have hj' : j < l.length := by simpa using hj
    have e1 : ∀ k, k < l.length → (el (vs.set q (f, (el vs q).2)) k).2 = (el vs k).2 := fun k hk => by
      rw [Pl.el_set (by omega)]
      split
      · rename_i e; rw [e]
      · rfl
    rw [e1 i hi', e1 j hj']
    exact q4 i j hi' hj' hij
/-- A machine being built: a block of its own, its rows apart. -/
def Bui (w : World) (t : TypeId) (base b : Nat) (z : Int) (l : List St) : Prop := ∃ v, Blk w b #[.int .i64 z, v] t ∧ OwnApt w base v l
theorem Bui.later {w w' : World} {t : TypeId} {base b : Nat} {z : Int} {l : List St} (h : Bui w t base b z l) (hb : Below w.heap.size w w') : Bui w' t base b z l := by
  obtain ⟨v, h1, h2⟩ := h
  exact ⟨v, h1.below hb h1.lt, h2.later hb⟩
end Go.Proofs.Ytnbiojjcebdljaa.Wt
namespace Go.Proofs.Ytnbiojjcebdljaa.Wt
open Go.ChangeShapes Go.WideShapes Go.ChangeAt Go.RowKit
open Go.Proofs.Ytnbiojjcebdljaa.Pl
set_option linter.unusedVariables false
set_option linter.unusedSimpArgs false
theorem shiftedP_any (va : Value) (ar : List Ar) (d : Int) (w : World) (hA : Arcs w va ar) (hl : ar.length ≤ 400) (hd : 0 ≤ d ∧ d ≤ 1000) (hto : ∀ p ∈ ar, 0 ≤ p.2.2.2 ∧ p.2.2.2 ≤ 1000) :
    Calls Try.prog 17 #[va, .int .i64 d] w fun e w' => ∃ v', e = .returned v' ∧ OwnArcs w' w.heap.size v' (ar.map (shA d)) ∧ Below w.heap.size w w' := by
  obtain ⟨i0, hi0, hz0, hz1, hz2⟩ := info_parts infoArc
  obtain ⟨a2, cap2, rfl, hga⟩ := hA.get
  have HGA : Hid (∀ j, j < ar.length → ∃ b off, a2 = some ⟨b, off, none⟩ ∧ b < w.heap.size ∧ w.cell? ⟨b, off + j * 4, none⟩ = some (.int .i64 (el ar j).1) ∧ w.cell? ⟨b, off + j * 4 + 1, none⟩ = some (.int .i64 (el ar j).2.1) ∧ w.cell? ⟨b, off + j * 4 + 2, none⟩ = some (.int .i64 (el ar j).2.2.1) ∧ w.cell? ⟨b, off + j * 4 + 3, none⟩ = some (.int .i64 (el ar j).2.2.2)) := hga
  have HTO : Hid (∀ p ∈ ar, 0 ≤ p.2.2.2 ∧ p.2.2.2 ≤ 1000) := hto
  clear hA hga hto
  generalize hL : ar.length = L at *
  have HL : Hid (ar.length = L) := hL
  clear hL
  go_enter Try.func17, Try.ntmps17
  go_wp2
  go_loopw [5, 10] (fun s5 i wr => ∃ (j : Nat) (vr : Value), j ≤ L ∧ vr = s5 ∧ i = .int .i64 j ∧ Hid (wr.ownsRow w.heap.size 46 4 vr j (((ar.take j).map (shA d)).flatMap encA)) ∧ Hid (Below w.heap.size w wr)) (fun _ i _ => L - (intOf i).toNat)
  case atStart => exact ⟨0, _, Nat.zero_le _, rfl, rfl, World.ownsRow_nil _ _ _ _, Below.refl _ _⟩
  case round =>
    obtain ⟨j, vr, hj, rfl, rfl, hrw, hb⟩ := hrel
    by_cases hjL : j < L
    · obtain ⟨b3, off3, rfl, hb3l, e0, e1, e2, e3⟩ := HGA.out j hjL
      have e0 := (hb.out.cell (p := ⟨b3, off3 + j * 4, none⟩) hb3l).trans e0
      have e1 := (hb.out.cell (p := ⟨b3, off3 + j * 4 + 1, none⟩) hb3l).trans e1
      have e2 := (hb.out.cell (p := ⟨b3, off3 + j * 4 + 2, none⟩) hb3l).trans e2
      have e3 := (hb.out.cell (p := ⟨b3, off3 + j * 4 + 3, none⟩) hb3l).trans e3
      have HST : Hid ((ar.take (j + 1)).map (shA d) = (ar.take j).map (shA d) ++ [shA d (el ar j)]) := el_mapA d (by rw [HL.out]; exact hjL)
      have HLE : Hid (((ar.take j).map (shA d)).length = j) := by show _ = _; rw [List.length_map, List.length_take, HL.out]; omega
      have HT := hidP (HTO.out _ (el_mem (l := ar) (j := j) (by rw [HL.out]; exact hjL)))
      have hj0 : (0 : Int) ≤ (j : Int) := by omega
      have hj1 : (j : Int) < (L : Int) := by omega
      generalize (ar.take j).map (shA d) = tl at *
      generalize el ar j = p at *
      obtain ⟨x0, x1, x2, x3⟩ := p
      simp only at e0 e1 e2 e3
      have hx3 : 0 ≤ x3 ∧ x3 ≤ 1000 := HT.out
      have hw3 : IntKind.i64.wrap (x3 + d) = x3 + d := wrapI (by omega) (by omega)
      have HD : Hid ((wr.alloc (.cells #[.int .i64 x0, .int .i64 x1, .int .i64 x2, .int .i64 (x3 + d)] 46)).ownsRow w.heap.size 46 4 vr j (tl.flatMap encA)) := hrw.out.alloc _
      have HDB : Hid (Below w.heap.size w (wr.alloc (.cells #[.int .i64 x0, .int .i64 x1, .int .i64 x2, .int .i64 (x3 + d)] 46))) := hb.out.alloc hb.out.size _
      clear hrw
      go_wp2_with (first
        | (at_builtin; refine wpList_append_rows encA_len (by decide) encA_one rfl _ _ 38 rfl w.heap.size 46 i0 _ 32 Try.underlying38 hi0 hz0 hz1 hz2 rfl _ j (tl.flatMap encA) rfl (HD.out.alloc _) _ [(x0, x1, x2, x3 + d)] rfl (by have h9 := oneRow (enc := encA) (wr.alloc (.cells #[.int .i64 x0, .int .i64 x1, .int .i64 x2, .int .i64 (x3 + d)] 46)) (x0, x1, x2, x3 + d) rfl 46; simp only [World.size_alloc] at h9; exact h9) (by simp; unfold maxLen; omega) (by simp; omega) (by have := HDB.out.size; simp at this ⊢; omega) ?_; intro v4 w4 ho4 hg4; have HO4 := hidP ho4; have HB4 : Hid (Below w.heap.size w w4) := (HDB.out.alloc HDB.out.size _).grown hg4 (by have := HDB.out.size; simp at this ⊢; omega) (fun k hk => (HD.out.lt k hk).1); clear ho4 hg4))
      go_roundw
      case rel => exact ⟨j + 1, _, by omega, rfl, by go_num, by rw [HST.out, List.flatMap_append]; exact HO4.out, HB4⟩
      case measure => simp [intOf]; omega
    · have hnl : ¬ (j : Int) < (L : Int) := by omega
      have HO : Hid (OwnArcs wr w.heap.size vr (ar.map (shA d))) := by
        have h9 := hrw.out
        have h8 : j = ar.length := by rw [HL.out]; omega
        unfold Hid OwnArcs
        rw [List.length_map]
        rw [h8, List.take_length] at h9
        exact h9
      go_wp2
      go_ret
      exact ⟨_, rfl, HO.out, hb.out⟩
/-- A state with an empty arc more, if there is where to go. -/
def lnkS (t x : Int) (s : St) : St := (s.1, s.2 ++ if t = -1 then [] else [(0, 0, x, t)])
theorem set_same {l : List St} {q : Nat} (hq : q < l.length) {s : St} (h : s = el l q) : l.set q s = l := by
  refine el_ext (by simp) fun j hj => ?_
  rw [Pl.el_set (by simpa using hj)]
  split
  · rename_i e; rw [h, e]
  · rfl
def HeldL (b : Nat) (vs : Value) (g o nb : Nat) (va : Value) (y0 y1 y2 y3 : Int) (w : World) : Prop := w.cell? ⟨b, 1, none⟩ = some vs ∧ w.cell? ⟨g, o, none⟩ = some va ∧ w.cell? ⟨nb, 0, none⟩ = some (.int .i64 y0) ∧ w.cell? ⟨nb, 1, none⟩ = some (.int .i64 y1) ∧ w.cell? ⟨nb, 2, none⟩ = some (.int .i64 y2) ∧ w.cell? ⟨nb, 3, none⟩ = some (.int .i64 y3)
set_option maxRecDepth 100000 in
/-- b.link(q, t, x). -/
theorem link_any (b base q : Nat) (z t x : Int) (l : List St) (W : World) (h : Bui W 50 base b z l) (hb : b < base) (hbW : base ≤ W.heap.size) (hq : q < l.length) (hl : (el l q).2.length ≤ 100000) (hll : l.length ≤ 100000) :
    Calls Try.prog 18 #[.pointer (some ⟨b, 0, none⟩), .int .i64 q, .int .i64 t, .int .i64 x] W fun e W' => e = .returned (.tuple #[]) ∧ Bui W' 50 base b z (l.set q (lnkS t x (el l q))) ∧ Below b W W' ∧ Kept (some b) W W' := by
  by_cases ht : t = -1
  · have H := hidP h
    have hr : Hid (l.set q (lnkS t x (el l q)) = l) := set_same hq (by unfold lnkS; rw [if_pos ht]; simp)
    have ht' : (t == -1) = true := by simpa using ht
    clear h ht
    go_enter Try.func18, Try.ntmps18
    go_wp2
    refine bodyPost_ret (v := .tuple #[]) (by simp [results, Try.results18, go_sem]) rfl ?_
    refine ⟨rfl, ?_, Below.refl _ _, Kept.refl _ _⟩
    rw [hr.out]
    exact H.out
  · have ht' : (t == -1) = false := by simpa using ht
    have hr : Hid (lnkS t x (el l q) = ((el l q).1, (el l q).2 ++ [(0, 0, x, t)])) := by show _ = _; unfold lnkS; rw [if_neg ht]
    obtain ⟨v, h1, h2⟩ := h
    have hlt := h1.lt
    have hA : Below W.heap.size W (W.alloc (.cells #[.int .i64 0, .int .i64 0, .int .i64 x, .int .i64 t] 46)) := (Below.refl _ _).alloc (Nat.le_refl _) _
    have hnb := Blk.made W #[.int .i64 0, .int .i64 0, .int .i64 x, .int .i64 t] 46
    obtain ⟨W1, hW1⟩ : ∃ W1, W1 = W.alloc (.cells #[.int .i64 0, .int .i64 0, .int .i64 x, .int .i64 t] 46) := ⟨_, rfl⟩
    have hs1 : W1.heap.size = W.heap.size + 1 := by rw [hW1]; simp
    rw [← hW1] at hA hnb
    obtain ⟨g, cap, a4, c4, hv, hbg, hgl, hc, a5, c5, w4, hr4, hc4, hf4, hb4, ho4, hk4, hk5, hg4⟩ := (h2.later hA.drew).arcAt (by show base ≤ W1.heap.size; omega) q hq (0, 0, x, t) (by omega)
    subst hv
    have H1 := hidP (h1.below hA hlt)
    have N1 := hidP hnb
    have hgl' : g < W1.heap.size := hgl
    have n4 : Blk w4 W.heap.size #[.int .i64 0, .int .i64 0, .int .i64 x, .int .i64 t] 46 := by
      refine (hnb.drew.alloc _).grown hg4 (fun e => ?_)
      have hcW : W.cell? ⟨g, q * 2 + 1, none⟩ = some (.slice a4 (el l q).2.length c4) := by
        rcases h2.sl with ⟨a', c', e'⟩
        refine (hA.cell (p := ⟨g, q * 2 + 1, none⟩) ?_).symm.trans hc
        obtain ⟨vs, q1, _⟩ := h2
        exact (q1.lt g rfl).2
      have := (h2.rowLt hq hcW _ e.symm).2
      omega
    have HM4 : Hid (Blk w4 b #[.int .i64 z, .slice (some ⟨g, 0, none⟩) l.length cap] 50) := hk4.blk H1.out.drew (by simp) (by decide) (by decide)
    have m1 := H1.out.cell 1 (v := .slice (some ⟨g, 0, none⟩) l.length cap) rfl
    have q0 : (0 : Int) ≤ (q : Int) := by omega
    have q1 : (q : Int) < (l.length : Int) := by omega
    generalize el l q = s at *
    obtain ⟨s0, s1⟩ := s
    simp only at hc hr4 hc4 ho4 hk5 hr
    generalize s1.length = sn at *
    have HS : HeldL b (.slice (some ⟨g, 0, none⟩) l.length cap) g (q * 2 + 1) W.heap.size (.slice a4 sn c4) 0 0 x t W1.drew := ⟨m1, hc, N1.out.cell 0 rfl, N1.out.cell 1 rfl, N1.out.cell 2 rfl, N1.out.cell 3 rfl⟩
    have HSA : HeldL b (.slice (some ⟨g, 0, none⟩) l.length cap) g (q * 2 + 1) W.heap.size (.slice a4 sn c4) 0 0 x t (W1.drew.alloc (.cells #[.int .i64 0, .int .i64 0, .int .i64 x, .int .i64 t] 46)) := by
      have hx := N1.out.drew.alloc (.cells #[.int .i64 0, .int .i64 0, .int .i64 x, .int .i64 t] 46)
      exact ⟨(H1.out.drew.alloc _).cell 1 rfl, (((Below.refl W1.drew.heap.size W1.drew).alloc (Nat.le_refl _) _).cell (p := ⟨g, q * 2 + 1, none⟩) hgl).trans hc, hx.cell 0 rfl, hx.cell 1 rfl, hx.cell 2 rfl, hx.cell 3 rfl⟩
    have HS4 : HeldL b (.slice (some ⟨g, 0, none⟩) l.length cap) g (q * 2 + 1) W.heap.size (.slice a4 sn c4) 0 0 x t w4 := ⟨HM4.out.cell 1 rfl, hc4, n4.cell 0 rfl, n4.cell 1 rfl, n4.cell 2 rfl, n4.cell 3 rfl⟩
    have R4 := hidP hr4
    have HO4 := hidP ho4
    have HM5 : Hid (Blk (w4.setCell ⟨g, q * 2 + 1, none⟩ (.slice a5 (sn + 1) c5)) b #[.int .i64 z, .slice (some ⟨g, 0, none⟩) l.length cap] 50) := HM4.out.setO _ _ (by show b ≠ g; omega)
    have HW5 : Hid (Below b W (w4.setCell ⟨g, q * 2 + 1, none⟩ (.slice a5 (sn + 1) c5))) := ((hA.drew.mono (Nat.le_of_lt hlt)).trans (hb4.mono (Nat.le_of_lt hb))).setCell (p := ⟨g, q * 2 + 1, none⟩) (by show b ≤ g; omega) _
    have HK5 : Hid (Kept (some b) W (w4.setCell ⟨g, q * 2 + 1, none⟩ (.slice a5 (sn + 1) c5))) := (((Kept.of hA.drew).trans hk4).trans hk5).any _
    clear hr4 ho4 hk4 hk5 hb4 h1 h2 hg4 n4 hnb hA m1
    go_enter Try.func18, Try.ntmps18
    go_wp2
    rw [← hW1]
    clear hW1 hs1
    refine region_anyL (HeldL b (.slice (some ⟨g, 0, none⟩) l.length cap) g (q * 2 + 1) W.heap.size (.slice a4 sn c4) 0 0 x t) 20 (by kernel_rfl) ?_
    refine anyL_take (i := 0) (v := ?v0_1) at0 (by kernel_rfl) (by kernel_rfl) (by kernel_rfl) (by kernel_rfl) (fun _ _ _ h => h) rfl ?y0_1 HS ?r0_1
    case y0_1 => intro wx hx; obtain ⟨h1, h2, h3, h4, h5, h6⟩ := hx; go_simp; try (with_reducible rfl)
    simp only [Act.put, List.setIfInBounds_toArray, List.set_cons_zero, List.set_cons_succ]
    refine anyL_take (i := 1) (v := ?v1_2) (atS at0) (by kernel_rfl) (by kernel_rfl) (by kernel_rfl) (by kernel_rfl) (fun _ _ _ h => h) rfl ?y1_2 HS ?r1_2
    case y1_2 => intro wx hx; obtain ⟨h1, h2, h3, h4, h5, h6⟩ := hx; go_simp; try (with_reducible rfl)
    simp only [Act.put, List.setIfInBounds_toArray, List.set_cons_zero, List.set_cons_succ]
    refine anyL_take (i := 2) (v := ?v2_3) (atS (atS at0)) (by kernel_rfl) (by kernel_rfl) (by kernel_rfl) (by kernel_rfl) (fun _ _ _ h => h) rfl ?y2_3 HS ?r2_3
    case y2_3 => intro wx hx; obtain ⟨h1, h2, h3, h4, h5, h6⟩ := hx; go_simp; try (with_reducible rfl)
    simp only [Act.put, List.setIfInBounds_toArray, List.set_cons_zero, List.set_cons_succ]
    refine anyL_take (i := 3) (v := ?v3_4) (atS (atS (atS at0))) (by kernel_rfl) (by kernel_rfl) (by kernel_rfl) (by kernel_rfl) (fun _ _ _ h => h) rfl ?y3_4 HS ?r3_4
    case y3_4 => intro wx hx; obtain ⟨h1, h2, h3, h4, h5, h6⟩ := hx; go_simp; try (with_reducible rfl)
    simp only [Act.put, List.setIfInBounds_toArray, List.set_cons_zero, List.set_cons_succ]
    refine anyL_take (i := 4) (v := ?v4_5) (atS (atS (atS (atS at0)))) (by kernel_rfl) (by kernel_rfl) (by kernel_rfl) (by kernel_rfl) (fun _ _ _ h => h) rfl ?y4_5 HS ?r4_5
    case y4_5 => intro wx hx; obtain ⟨h1, h2, h3, h4, h5, h6⟩ := hx; go_simp; try (with_reducible rfl)
    simp only [Act.put, List.setIfInBounds_toArray, List.set_cons_zero, List.set_cons_succ]
    refine anyL_take (i := 5) (v := ?v5_6) (atS (atS (atS (atS (atS at0))))) (by kernel_rfl) (by kernel_rfl) (by kernel_rfl) (by kernel_rfl) (fun _ _ _ h => h) rfl ?y5_6 HS ?r5_6
    case y5_6 => intro wx hx; obtain ⟨h1, h2, h3, h4, h5, h6⟩ := hx; go_simp; try (with_reducible rfl)
    simp only [Act.put, List.setIfInBounds_toArray, List.set_cons_zero, List.set_cons_succ]
    refine anyL_take (i := 6) (v := ?v6_7) (atS (atS (atS (atS (atS (atS at0)))))) (by kernel_rfl) (by kernel_rfl) (by kernel_rfl) (by kernel_rfl) (fun _ _ _ h => h) rfl ?y6_7 HS ?r6_7
    case y6_7 => intro wx hx; obtain ⟨h1, h2, h3, h4, h5, h6⟩ := hx; go_simp; try (with_reducible rfl)
    simp only [Act.put, List.setIfInBounds_toArray, List.set_cons_zero, List.set_cons_succ]
    refine anyL_take (i := 7) (v := ?v7_8) (atS (atS (atS (atS (atS (atS (atS at0))))))) (by kernel_rfl) (by kernel_rfl) (by kernel_rfl) (by kernel_rfl) (fun _ _ _ h => h) rfl ?y7_8 HS ?r7_8
    case y7_8 => intro wx hx; obtain ⟨h1, h2, h3, h4, h5, h6⟩ := hx; go_simp; try (with_reducible rfl)
    simp only [Act.put, List.setIfInBounds_toArray, List.set_cons_zero, List.set_cons_succ]
    refine anyL_take (i := 8) (v := ?v8_9) (atS (atS (atS (atS (atS (atS (atS (atS at0)))))))) (by kernel_rfl) (by kernel_rfl) (by kernel_rfl) (by kernel_rfl) (fun _ _ _ h => h) rfl ?y8_9 HS ?r8_9
    case y8_9 => intro wx hx; obtain ⟨h1, h2, h3, h4, h5, h6⟩ := hx; go_simp; try (with_reducible rfl)
    simp only [Act.put, List.setIfInBounds_toArray, List.set_cons_zero, List.set_cons_succ]
    refine anyL_take (i := 9) (v := ?v9_10) (atS (atS (atS (atS (atS (atS (atS (atS (atS at0))))))))) (by kernel_rfl) (by kernel_rfl) (by kernel_rfl) (by kernel_rfl) (fun _ _ _ h => h) rfl ?y9_10 HS ?r9_10
    case y9_10 => intro wx hx; obtain ⟨h1, h2, h3, h4, h5, h6⟩ := hx; go_simp; try (with_reducible rfl)
    simp only [Act.put, List.setIfInBounds_toArray, List.set_cons_zero, List.set_cons_succ]
    refine anyL_take (i := 10) (v := ?v10_11) (atS (atS (atS (atS (atS (atS (atS (atS (atS (atS at0)))))))))) (by kernel_rfl) (by kernel_rfl) (by kernel_rfl) (by kernel_rfl) (fun _ _ _ h => h) rfl ?y10_11 HS ?r10_11
    case y10_11 => intro wx hx; obtain ⟨h1, h2, h3, h4, h5, h6⟩ := hx; go_simp; try (with_reducible rfl)
    simp only [Act.put, List.setIfInBounds_toArray, List.set_cons_zero, List.set_cons_succ]
    refine anyL_take (i := 11) (v := ?v11_12) (atS (atS (atS (atS (atS (atS (atS (atS (atS (atS (atS at0))))))))))) (by kernel_rfl) (by kernel_rfl) (by kernel_rfl) (by kernel_rfl) (fun _ _ _ h => h) rfl ?y11_12 HS ?r11_12
    case y11_12 => intro wx hx; obtain ⟨h1, h2, h3, h4, h5, h6⟩ := hx; go_simp; try (with_reducible rfl)
    simp only [Act.put, List.setIfInBounds_toArray, List.set_cons_zero, List.set_cons_succ]
    refine anyL_take (i := 12) (v := ?v12_13) (atS (atS (atS (atS (atS (atS (atS (atS (atS (atS (atS (atS at0)))))))))))) (by kernel_rfl) (by kernel_rfl) (by kernel_rfl) (by kernel_rfl) (fun _ _ _ h => h) rfl ?y12_13 HS ?r12_13
    case y12_13 => intro wx hx; obtain ⟨h1, h2, h3, h4, h5, h6⟩ := hx; go_simp; try (with_reducible rfl)
    simp only [Act.put, List.setIfInBounds_toArray, List.set_cons_zero, List.set_cons_succ]
    refine anyL_take (i := 13) (v := ?v13_14) (atS (atS (atS (atS (atS (atS (atS (atS (atS (atS (atS (atS (atS at0))))))))))))) (by kernel_rfl) (by kernel_rfl) (by kernel_rfl) (by kernel_rfl) (fun _ _ _ h => h) rfl ?y13_14 HS ?r13_14
    case y13_14 => intro wx hx; obtain ⟨h1, h2, h3, h4, h5, h6⟩ := hx; go_simp; try (with_reducible rfl)
    simp only [Act.put, List.setIfInBounds_toArray, List.set_cons_zero, List.set_cons_succ]
    refine anyL_take (i := 14) (v := ?v14_15) (atS (atS (atS (atS (atS (atS (atS (atS (atS (atS (atS (atS (atS (atS at0)))))))))))))) (by kernel_rfl) (by kernel_rfl) (by kernel_rfl) (by kernel_rfl) (fun _ _ _ h => h) rfl ?y14_15 HS ?r14_15
    case y14_15 => intro wx hx; obtain ⟨h1, h2, h3, h4, h5, h6⟩ := hx; go_simp; try (with_reducible rfl)
    simp only [Act.put, List.setIfInBounds_toArray, List.set_cons_zero, List.set_cons_succ]
    refine anyL_take (i := 15) (v := ?v15_16) (atS (atS (atS (atS (atS (atS (atS (atS (atS (atS (atS (atS (atS (atS (atS at0))))))))))))))) (by kernel_rfl) (by kernel_rfl) (by kernel_rfl) (by kernel_rfl) (fun _ _ _ h => h) rfl ?y15_16 HS ?r15_16
    case y15_16 => intro wx hx; obtain ⟨h1, h2, h3, h4, h5, h6⟩ := hx; go_simp; try (with_reducible rfl)
    simp only [Act.put, List.setIfInBounds_toArray, List.set_cons_zero, List.set_cons_succ]
    refine anyL_one (i := 16) (atS (atS (atS (atS (atS (atS (atS (atS (atS (atS (atS (atS (atS (atS (atS (atS at0)))))))))))))))) (by kernel_rfl) rfl (fun K hK => ?_)
    go_simp
    refine hK _ _ (.inr HSA) ?_
    try simp only [Act.put, List.setIfInBounds_toArray, List.set_cons_zero, List.set_cons_succ]
    refine anyL_one (i := 17) (atS (atS (atS (atS (atS (atS (atS (atS (atS (atS (atS (atS (atS (atS (atS (atS (atS at0))))))))))))))))) (by kernel_rfl) rfl (fun K hK => ?_)
    refine wp_append_run (.tmp 28) (.tmp 30) 38 rfl rfl rfl R4.out ?_
    refine hK _ _ (.inr HS4) ?_
    try simp only [Act.put, List.setIfInBounds_toArray, List.set_cons_zero, List.set_cons_succ]
    refine anyL_one (i := 18) (atS (atS (atS (atS (atS (atS (atS (atS (atS (atS (atS (atS (atS (atS (atS (atS (atS (atS at0)))))))))))))))))) (by kernel_rfl) rfl (fun K hK => ?_)
    go_simp
    refine hK _ _ (.inr HS4) ?_
    try simp only [Act.put, List.setIfInBounds_toArray, List.set_cons_zero, List.set_cons_succ]
    refine anyL_take (i := 19) (v := ?v19_17) (atS (atS (atS (atS (atS (atS (atS (atS (atS (atS (atS (atS (atS (atS (atS (atS (atS (atS (atS at0))))))))))))))))))) (by kernel_rfl) (by kernel_rfl) (by kernel_rfl) (by kernel_rfl) (fun _ _ _ h => h) rfl ?y19_17 HS4 ?r19_17
    case y19_17 => intro wx hx; obtain ⟨h1, h2, h3, h4, h5, h6⟩ := hx; go_simp; try (with_reducible rfl)
    simp only [Act.put, List.setIfInBounds_toArray, List.set_cons_zero, List.set_cons_succ]
    refine anyL_one (i := 20) (atS (atS (atS (atS (atS (atS (atS (atS (atS (atS (atS (atS (atS (atS (atS (atS (atS (atS (atS (atS at0)))))))))))))))))))) (by kernel_rfl) rfl (fun K hK => ?_)
    go_simp
    refine hK _ _ (.inl rfl) (anyL_done (by kernel_rfl) (NoPanic.normal ?_))
    try simp only [Act.put, List.setIfInBounds_toArray, List.set_cons_zero, List.set_cons_succ]
    clear HS HSA HS4 hc4 hf4
    go_wp2
    go_end0
    refine ⟨rfl, ⟨_, HM5.out, ?_⟩, HW5.out, HK5.out⟩
    rw [hr.out]
    exact HO4.out
end Go.Proofs.Ytnbiojjcebdljaa.Wt
namespace Go.Proofs.Ytnbiojjcebdljaa.Wt
open Go.ChangeShapes Go.WideShapes Go.ChangeAt Go.RowKit
open Go.Proofs.Ytnbiojjcebdljaa.Pl
set_option linter.unusedVariables false
set_option linter.unusedSimpArgs false
def HeldD (b : Nat) (vs : Value) (sb : Nat) (f : Int) (va : Value) (w : World) : Prop := w.cell? ⟨b, 1, none⟩ = some vs ∧ w.cell? ⟨sb, 0, none⟩ = some (.int .i64 f) ∧ w.cell? ⟨sb, 1, none⟩ = some va
theorem HeldD.mk' {W : World} {b sb : Nat} {vs va : Value} {z f : Int} (h1 : Blk W b #[.int .i64 z, vs] 50) (h2 : Blk W sb #[.int .i64 f, va] 40) : HeldD b vs sb f va W := ⟨h1.cell 1 rfl, h2.cell 0 rfl, h2.cell 1 rfl⟩
set_option maxRecDepth 100000 in
set_option maxHeartbeats 1600000 in
/-- b.add(m). -/
theorem add_any (b base : Nat) (z : Int) (l : List St) (m : Mc) (v : Value) (w0 W : World) (h : Bui W 50 base b z l) (hb : b < base) (hbW : base ≤ W.heap.size) (hm : Mach w0 v m) (h0 : Below w0.heap.size w0 W) (h0b : w0.heap.size ≤ b) (hr : faultM m = 0) (hll : l.length ≤ 1000) :
    Calls Try.prog 11 #[.pointer (some ⟨b, 0, none⟩), v] W fun e W' => e = .returned (.int .i64 (if m.1 = -1 then -1 else m.1 + (l.length : Int))) ∧ Bui W' 50 base b z (l ++ m.2.map (fun s => shS (l.length : Int) s.1 [] s)) ∧ Below b W W' ∧ Kept (some b) W W' := by
  obtain ⟨zm, lm⟩ := m
  have HST := hidP (right_states hr)
  have h60 := (right_size hr).1
  obtain ⟨⟨hz1, hz2⟩, _⟩ := right_parts hr
  simp only at hz1 hz2 h60 HST
  obtain ⟨vs, rfl, hS⟩ := hm
  obtain ⟨a, cap, rfl, hc⟩ := hS.get
  have HC : Hid (∀ j, j < lm.length → ∃ b off va, a = some ⟨b, off, none⟩ ∧ b < w0.heap.size ∧ w0.cell? ⟨b, off + j * 2, none⟩ = some (.int .i64 (el lm j).1) ∧ w0.cell? ⟨b, off + j * 2 + 1, none⟩ = some va ∧ Arcs w0 va (el lm j).2) := hc
  have H0 := hidP h0
  obtain ⟨vl, h1, h2⟩ := h
  obtain ⟨al, cl, hvl⟩ := h2.sl
  subst hvl
  have HB := hidP h1
  have HO := hidP h2
  have hlt := h1.lt
  have c1 := h1.cell 1 (v := .slice al l.length cl) rfl
  have HT0 : Hid (l = l ++ (lm.take 0).map (fun s => shS (l.length : Int) s.1 [] s)) := by show _ = _; simp
  have HTS : Hid (∀ j, j < lm.length → l ++ (lm.take (j + 1)).map (fun s => shS (l.length : Int) s.1 [] s) = l ++ (lm.take j).map (fun s => shS (l.length : Int) s.1 [] s) ++ [((el lm j).1, (el lm j).2.map (shA (l.length : Int)))]) := fun j hj => by rw [take_el hj]; simp [shS]
  have HTL : Hid (∀ j, j ≤ lm.length → (l ++ (lm.take j).map (fun s => shS (l.length : Int) s.1 [] s)).length = l.length + j) := fun j hj => by simp; omega
  have HTN : Hid (l ++ (lm.take lm.length).map (fun s => shS (l.length : Int) s.1 [] s) = l ++ lm.map (fun s => shS (l.length : Int) s.1 [] s)) := by show _ = _; rw [List.take_length]
  obtain ⟨TT, hTT⟩ : ∃ TT : Nat → List St, ∀ j, l ++ (lm.take j).map (fun s => shS (l.length : Int) s.1 [] s) = TT j := ⟨_, fun _ => rfl⟩
  simp only [hTT] at HT0 HTS HTL HTN
  rw [← HTN.out]
  clear hTT hS hc h0 h1 h2
  generalize hn : lm.length = n at *
  have HN : Hid (lm.length = n) := hn
  generalize hk : l.length = k at *
  have HLK : Hid (l.length = k) := hk
  clear hn hk
  have hd0 : 0 ≤ (k : Int) ∧ (k : Int) ≤ 1000 := by omega
  have hB0 : Below b W (W.alloc (.cells #[.int .i64 zm, .slice a n cap] 28)) := (Below.refl b W).alloc (Nat.le_of_lt hlt) _
  have HX0 : Hid (Kept (some b) W (W.alloc (.cells #[.int .i64 zm, .slice a n cap] 28))) := (Kept.of ((Below.refl _ _).alloc (Nat.le_refl _) _)).any _
  have HBx := hidP hB0
  clear hB0
  go_enter Try.func11, Try.ntmps11
  go_wp2
  go_loopw [17] (fun i wr => ∃ (j : Nat) (vo : Value), j ≤ n ∧ i = .int .i64 j ∧ Hid (Blk wr W.heap.size #[.int .i64 zm, .slice a n cap] 28) ∧ Hid (Blk wr b #[.int .i64 z, vo] 50) ∧ Hid (OwnApt wr base vo (TT j)) ∧ Hid (Below b W wr) ∧ Hid (Kept (some b) W wr)) (fun i _ => n - (intOf i).toNat)
  case atStart => exact ⟨0, _, Nat.zero_le _, rfl, Blk.made W _ _, HB.out.alloc _, by rw [← HT0.out]; exact HO.out.later ((Below.refl _ _).alloc (Nat.le_refl _) _), HBx, HX0⟩
  case round =>
    obtain ⟨j, vo, hj, rfl, hbx, hbb, ho, hbl, hkp⟩ := hrel
    have hsr := hbl.out.size
    have HBw := hidP (H0.out.trans (hbl.out.mono h0b))
    by_cases hjn : j < n
    · have hj0 : (0 : Int) ≤ (j : Int) := by omega
      have hj1 : (j : Int) < (n : Int) := by omega
      obtain ⟨b3, off, va, rfl, hb3, y0, y1, gA⟩ := HC.out j hjn
      obtain ⟨hfin, hal, hto⟩ := HST.out j hjn
      have HTi := hidP (HTS.out j hjn)
      have HLn := hidP (HTL.out j hj)
      have x0 := (HBw.out.cell (p := ⟨b3, off + j * 2, none⟩) hb3).trans y0
      have x1 := (HBw.out.cell (p := ⟨b3, off + j * 2 + 1, none⟩) hb3).trans y1
      obtain ⟨a2, cap2, hva, _⟩ := gA.get
      obtain ⟨vo', hvo'⟩ : ∃ vo', vo = vo' := ⟨_, rfl⟩
      obtain ⟨av, cv, hv⟩ := ho.out.sl
      rw [HLn.out] at hv
      subst hv
      clear hvo'
      have HSH : Hid (∀ W2, Below w0.heap.size w0 W2 → Calls Try.prog 17 #[va, .int .i64 (k : Int)] W2 fun e w' => ∃ v', e = .returned v' ∧ OwnArcs w' W2.heap.size v' ((el lm j).2.map (shA (k : Int))) ∧ Below W2.heap.size W2 w') := fun W2 hW => shiftedP_any va (el lm j).2 (k : Int) W2 (gA.later hW (Nat.le_refl _)) hal hd0 hto
      subst hva
      clear gA hto hfin y0 y1
      generalize (el lm j).1 = fin at *
      generalize (el lm j).2.map (shA (k : Int)) = NL at *
      generalize (el lm j).2.length = an at *
      generalize TT j = Lst at *
      have hA : Below wr.heap.size wr (wr.alloc (.cells #[.int .i64 fin, .slice a2 an cap2] 40)) := (Below.refl _ _).alloc (Nat.le_refl _) _
      have hS1 := Blk.made wr #[.int .i64 fin, .slice a2 an cap2] 40
      obtain ⟨W1, hW1⟩ : ∃ W1, W1 = wr.alloc (.cells #[.int .i64 fin, .slice a2 an cap2] 40) := ⟨_, rfl⟩
      have hs1 : W1.heap.size = wr.heap.size + 1 := by rw [hW1]; simp
      rw [← hW1] at hA hS1
      have HA := hidP hA
      have hB1 := hbb.out.below hA hbb.out.lt
      have hO1 : OwnApt W1.drew base (.slice av (k + j) cv) Lst := ho.out.later hA.drew
      have HSD := HeldD.mk' hB1.drew hS1.drew
      have HS1 := hidP hS1
      have HB1 := hidP hB1
      have HO1 := hidP hO1
      clear hA hS1 hB1 hO1
      go_wp2
      rw [← hW1]
      have HLT : Hid (W1.heap.size = wr.heap.size + 1) := hs1
      clear hW1 hs1
      refine region_anyL (HeldD b (.slice av (k + j) cv) wr.heap.size fin (.slice a2 an cap2)) 18 (by kernel_rfl) ?_
      refine anyL_take (i := 0) (v := ?v0_18) at0 (by kernel_rfl) (by kernel_rfl) (by kernel_rfl) (by kernel_rfl) (fun _ _ _ h => h) rfl ?y0_18 HSD ?r0_18
      case y0_18 => intro wx hx; obtain ⟨h1, h2, h3⟩ := hx; go_simp; try (with_reducible rfl)
      simp only [Act.put, List.setIfInBounds_toArray, List.set_cons_zero, List.set_cons_succ]
      refine anyL_take (i := 1) (v := ?v1_19) (atS at0) (by kernel_rfl) (by kernel_rfl) (by kernel_rfl) (by kernel_rfl) (fun _ _ _ h => h) rfl ?y1_19 HSD ?r1_19
      case y1_19 => intro wx hx; obtain ⟨h1, h2, h3⟩ := hx; go_simp; try (with_reducible rfl)
      simp only [Act.put, List.setIfInBounds_toArray, List.set_cons_zero, List.set_cons_succ]
      refine anyL_take (i := 2) (v := ?v2_20) (atS (atS at0)) (by kernel_rfl) (by kernel_rfl) (by kernel_rfl) (by kernel_rfl) (fun _ _ _ h => h) rfl ?y2_20 HSD ?r2_20
      case y2_20 => intro wx hx; obtain ⟨h1, h2, h3⟩ := hx; go_simp; try (with_reducible rfl)
      simp only [Act.put, List.setIfInBounds_toArray, List.set_cons_zero, List.set_cons_succ]
      refine anyL_take (i := 3) (v := ?v3_21) (atS (atS (atS at0))) (by kernel_rfl) (by kernel_rfl) (by kernel_rfl) (by kernel_rfl) (fun _ _ _ h => h) rfl ?y3_21 HSD ?r3_21
      case y3_21 => intro wx hx; obtain ⟨h1, h2, h3⟩ := hx; go_simp; try (with_reducible rfl)
      simp only [Act.put, List.setIfInBounds_toArray, List.set_cons_zero, List.set_cons_succ]
      refine anyL_take (i := 4) (v := ?v4_22) (atS (atS (atS (atS at0)))) (by kernel_rfl) (by kernel_rfl) (by kernel_rfl) (by kernel_rfl) (fun _ _ _ h => h) rfl ?y4_22 HSD ?r4_22
      case y4_22 => intro wx hx; obtain ⟨h1, h2, h3⟩ := hx; go_simp; try (with_reducible rfl)
      simp only [Act.put, List.setIfInBounds_toArray, List.set_cons_zero, List.set_cons_succ]
      refine anyL_take (i := 5) (v := ?v5_23) (atS (atS (atS (atS (atS at0))))) (by kernel_rfl) (by kernel_rfl) (by kernel_rfl) (by kernel_rfl) (fun _ _ _ h => h) rfl ?y5_23 HSD ?r5_23
      case y5_23 => intro wx hx; obtain ⟨h1, h2, h3⟩ := hx; go_simp; try (with_reducible rfl)
      simp only [Act.put, List.setIfInBounds_toArray, List.set_cons_zero, List.set_cons_succ]
      refine anyL_take (i := 6) (v := ?v6_24) (atS (atS (atS (atS (atS (atS at0)))))) (by kernel_rfl) (by kernel_rfl) (by kernel_rfl) (by kernel_rfl) (fun _ _ _ h => h) rfl ?y6_24 HSD ?r6_24
      case y6_24 => intro wx hx; obtain ⟨h1, h2, h3⟩ := hx; go_simp; try (with_reducible rfl)
      simp only [Act.put, List.setIfInBounds_toArray, List.set_cons_zero, List.set_cons_succ]
      refine anyL_take (i := 7) (v := ?v7_25) (atS (atS (atS (atS (atS (atS (atS at0))))))) (by kernel_rfl) (by kernel_rfl) (by kernel_rfl) (by kernel_rfl) (fun _ _ _ h => h) rfl ?y7_25 HSD ?r7_25
      case y7_25 => intro wx hx; obtain ⟨h1, h2, h3⟩ := hx; go_simp; try (with_reducible rfl)
      simp only [Act.put, List.setIfInBounds_toArray, List.set_cons_zero, List.set_cons_succ]
      refine anyL_take (i := 8) (v := ?v8_26) (atS (atS (atS (atS (atS (atS (atS (atS at0)))))))) (by kernel_rfl) (by kernel_rfl) (by kernel_rfl) (by kernel_rfl) (fun _ _ _ h => h) rfl ?y8_26 HSD ?r8_26
      case y8_26 => intro wx hx; obtain ⟨h1, h2, h3⟩ := hx; go_simp; try (with_reducible rfl)
      simp only [Act.put, List.setIfInBounds_toArray, List.set_cons_zero, List.set_cons_succ]
      refine anyL_take (i := 9) (v := ?v9_27) (atS (atS (atS (atS (atS (atS (atS (atS (atS at0))))))))) (by kernel_rfl) (by kernel_rfl) (by kernel_rfl) (by kernel_rfl) (fun _ _ _ h => h) rfl ?y9_27 HSD ?r9_27
      case y9_27 => intro wx hx; obtain ⟨h1, h2, h3⟩ := hx; go_simp; try (with_reducible rfl)
      simp only [Act.put, List.setIfInBounds_toArray, List.set_cons_zero, List.set_cons_succ]
      refine anyL_take (i := 10) (v := ?v10_28) (atS (atS (atS (atS (atS (atS (atS (atS (atS (atS at0)))))))))) (by kernel_rfl) (by kernel_rfl) (by kernel_rfl) (by kernel_rfl) (fun _ _ _ h => h) rfl ?y10_28 HSD ?r10_28
      case y10_28 => intro wx hx; obtain ⟨h1, h2, h3⟩ := hx; go_simp; try (with_reducible rfl)
      simp only [Act.put, List.setIfInBounds_toArray, List.set_cons_zero, List.set_cons_succ]
      refine anyL_one (i := 11) (atS (atS (atS (atS (atS (atS (atS (atS (atS (atS (atS at0))))))))))) (by kernel_rfl) rfl (fun K hK => ?_)
      go_simp
      with_reducible refine (HSH.out _ (HBw.out.trans (HA.out.drew.mono (by have := HBw.out.size; omega)))).mono ?_
      rintro e1 w5 ⟨v5, rfl, ho5, hb5⟩
      have hs5 := hb5.size
      obtain ⟨a5, c5, hv5⟩ := ho5.sl
      subst hv5
      have B5 := HB1.out.drew.below hb5 HB1.out.lt
      have S5 := HS1.out.drew.below hb5 HS1.out.lt
      obtain ⟨a6, c6, w6, hr6, ho6, hb6, hk6, hg6⟩ := HO1.out.pushA hb5 ho5 fin (by have := HLn.out; omega) (by show base ≤ W1.heap.size; have := HLT.out; omega)
      rw [HLn.out] at hr6 ho6
      have hlo := ho.out.lt
      have B6 : Blk w6 b #[.int .i64 z, .slice av (k + j) cv] 50 := hk6.blk B5 (by simp) (by decide) (by decide)
      have S6 : Blk w6 wr.heap.size #[.int .i64 fin, .slice a2 an cap2] 40 := (S5.alloc _).grown hg6 (fun e => by have := (hlo _ e.symm).2; omega)
      have HSE := HeldD.mk' B5 S5
      have HSF := HeldD.mk' (W := w5.alloc (.cells #[.int .i64 fin, .slice a5 NL.length c5] 40)) (B5.alloc _) (S5.alloc _)
      have HSG := HeldD.mk' B6 S6
      have R6 := hidP hr6
      have f6 := B6.fz 1
      have c6' := B6.cell 1 (v := .slice av (k + j) cv) rfl
      have HO7 : Hid (OwnApt (w6.setCell ⟨b, 1, none⟩ (.slice a6 (k + j + 1) c6)) base (.slice a6 (k + j + 1) c6) (Lst ++ [(fin, NL)])) := ho6.setCell (a := ⟨b, 1, none⟩) hb _
      have HB7 : Hid (Blk (w6.setCell ⟨b, 1, none⟩ (.slice a6 (k + j + 1) c6)) b #[.int .i64 z, .slice a6 (k + j + 1) c6] 50) := B6.set 1 _
      have hkA : Kept none wr w6 := ((Kept.of HA.out.drew).trans (Kept.of hb5)).trans hk6
      have hBA : Below b wr w6 := ((HA.out.drew.mono (Nat.le_of_lt hbb.out.lt)).trans (hb5.mono (by show b ≤ W1.heap.size; have := HLT.out; have := hbb.out.lt; omega))).trans (hb6.mono (Nat.le_of_lt hb))
      have HX7 : Hid (Blk (w6.setCell ⟨b, 1, none⟩ (.slice a6 (k + j + 1) c6)) W.heap.size #[.int .i64 zm, .slice (some ⟨b3, off, none⟩) n cap] 28) := (hkA.blk hbx.out (by simp) (by decide) (by decide)).setO ⟨b, 1, none⟩ _ (by show W.heap.size ≠ b; omega)
      have HL7 : Hid (Below b W (w6.setCell ⟨b, 1, none⟩ (.slice a6 (k + j + 1) c6))) := (hbl.out.trans hBA).setCell (p := ⟨b, 1, none⟩) (Nat.le_refl _) _
      have HK7 : Hid (Kept (some b) W (w6.setCell ⟨b, 1, none⟩ (.slice a6 (k + j + 1) c6))) := (hkp.out.trans (hkA.any _)).trans (Kept.setM w6 b 1 _)
      clear hr6 ho6 hb6 hk6 hg6 B5 S5 B6 S6 hkA hBA ho5 hb5 hlo
      refine hK _ _ (.inr HSE) ?_
      try simp only [Act.put, List.setIfInBounds_toArray, List.set_cons_zero, List.set_cons_succ]
      refine anyL_one (i := 12) (atS (atS (atS (atS (atS (atS (atS (atS (atS (atS (atS (atS at0)))))))))))) (by kernel_rfl) rfl (fun K hK => ?_)
      go_simp
      refine hK _ _ (.inr HSE) ?_
      try simp only [Act.put, List.setIfInBounds_toArray, List.set_cons_zero, List.set_cons_succ]
      refine anyL_one (i := 13) (atS (atS (atS (atS (atS (atS (atS (atS (atS (atS (atS (atS (atS at0))))))))))))) (by kernel_rfl) rfl (fun K hK => ?_)
      go_simp
      refine hK _ _ (.inr HSF) ?_
      try simp only [Act.put, List.setIfInBounds_toArray, List.set_cons_zero, List.set_cons_succ]
      refine anyL_one (i := 14) (atS (atS (atS (atS (atS (atS (atS (atS (atS (atS (atS (atS (atS (atS at0)))))))))))))) (by kernel_rfl) rfl (fun K hK => ?_)
      refine wp_append_run (.tmp 26) (.tmp 34) 26 rfl rfl rfl R6.out ?_
      refine hK _ _ (.inr HSG) ?_
      try simp only [Act.put, List.setIfInBounds_toArray, List.set_cons_zero, List.set_cons_succ]
      refine anyL_one (i := 15) (atS (atS (atS (atS (atS (atS (atS (atS (atS (atS (atS (atS (atS (atS (atS at0))))))))))))))) (by kernel_rfl) rfl (fun K hK => ?_)
      go_simp
      refine hK _ _ (.inr HSG) ?_
      try simp only [Act.put, List.setIfInBounds_toArray, List.set_cons_zero, List.set_cons_succ]
      refine anyL_one (i := 16) (atS (atS (atS (atS (atS (atS (atS (atS (atS (atS (atS (atS (atS (atS (atS (atS at0)))))))))))))))) (by kernel_rfl) rfl (fun K hK => ?_)
      go_simp
      refine hK _ _ (.inr HSG) ?_
      try simp only [Act.put, List.setIfInBounds_toArray, List.set_cons_zero, List.set_cons_succ]
      refine anyL_one (i := 17) (atS (atS (atS (atS (atS (atS (atS (atS (atS (atS (atS (atS (atS (atS (atS (atS (atS at0))))))))))))))))) (by kernel_rfl) rfl (fun K hK => ?_)
      go_simp
      refine hK _ _ (.inr HSG) ?_
      try simp only [Act.put, List.setIfInBounds_toArray, List.set_cons_zero, List.set_cons_succ]
      refine anyL_one (i := 18) (atS (atS (atS (atS (atS (atS (atS (atS (atS (atS (atS (atS (atS (atS (atS (atS (atS (atS at0)))))))))))))))))) (by kernel_rfl) rfl (fun K hK => ?_)
      go_simp
      refine hK _ _ (.inl rfl) (anyL_done (by kernel_rfl) (NoPanic.normal ?_))
      try simp only [Act.put, List.setIfInBounds_toArray, List.set_cons_zero, List.set_cons_succ]
      clear HSD HSE HSF HSG f6 c6'
      go_wp2
      go_roundw
      case rel => exact ⟨j + 1, _, by omega, by go_num, HX7, HB7, by rw [HTi.out]; exact HO7, HL7, HK7⟩
      case measure => simp [intOf]; omega
    · have hnj : ¬ (j : Int) < (n : Int) := by omega
      obtain rfl : j = n := by omega
      have d0 := hbx.out.cell 0 (v := .int .i64 zm) rfl
      by_cases hz : zm = -1
      · have hz' : (zm == -1) = true := by simpa using hz
        have HR : Hid ((if zm = -1 then (-1 : Int) else zm + (k : Int)) = -1) := if_pos hz
        go_wp2
        go_ret
        exact ⟨by first | rfl | (rw [HR.out]; rfl), ⟨_, hbb.out, ho.out⟩, hbl.out, hkp.out⟩
      · have hz' : (zm == -1) = false := by simpa using hz
        have HR : Hid ((if zm = -1 then (-1 : Int) else zm + (k : Int)) = zm + (k : Int)) := if_neg hz
        have hwz : IntKind.i64.wrap (zm + (k : Int)) = zm + (k : Int) := wrapI (by omega) (by omega)
        go_wp2
        go_ret
        exact ⟨by first | rfl | (rw [HR.out]; rfl), ⟨_, hbb.out, ho.out⟩, hbl.out, hkp.out⟩
end Go.Proofs.Ytnbiojjcebdljaa.Wt
namespace Go.Proofs.Ytnbiojjcebdljaa.Wt
open Go.ChangeShapes Go.WideShapes Go.ChangeAt Go.RowKit
open Go.Proofs.Ytnbiojjcebdljaa.Pl
set_option linter.unusedVariables false
set_option linter.unusedSimpArgs false
/-- A state whose end leads on. -/
def ledS (t : Int) (s : St) : St := if s.1 = 1000000001 then s else (1000000001, s.2 ++ if t = -1 then [] else [(0, 0, s.1, t)])
/-- The states from a on, up to the one ahead of q, lead on. -/
def ledL (t : Int) (a q : Nat) (l : List St) : List St := l.mapIdx fun i s => if a ≤ i ∧ i < q then ledS t s else s
theorem ledL_len (t : Int) (a q : Nat) (l : List St) : (ledL t a q l).length = l.length := by simp [ledL]
theorem ledL_el {t : Int} {a q : Nat} {l : List St} {j : Nat} (hj : j < l.length) : el (ledL t a q l) j = if a ≤ j ∧ j < q then ledS t (el l j) else el l j := by
  rw [el_get (by rw [ledL_len]; exact hj), el_get hj]
  simp [ledL]
theorem ledL_start (t : Int) (a : Nat) (l : List St) : ledL t a a l = l := el_ext (ledL_len _ _ _ _) fun j hj => by
  rw [ledL_len] at hj
  rw [ledL_el hj, if_neg (by omega)]
theorem ledL_step {t : Int} {a q : Nat} {l : List St} (ha : a ≤ q) (hq : q < l.length) : ledL t a (q + 1) l = (ledL t a q l).set q (ledS t (el l q)) := el_ext (by rw [List.length_set, ledL_len, ledL_len]) fun j hj => by
  rw [ledL_len] at hj
  rw [ledL_el hj, Pl.el_set (by rw [ledL_len]; exact hj), ledL_el hj]
  by_cases e : q = j
  · rw [if_pos e, ← e, if_pos (by omega)]
  · rw [if_neg e]
    by_cases h : a ≤ j ∧ j < q
    · rw [if_pos h, if_pos (by omega)]
    · rw [if_neg h, if_neg (by omega)]
theorem ledL_here {t : Int} {a q : Nat} {l : List St} (hq : q < l.length) : el (ledL t a q l) q = el l q := by rw [ledL_el hq, if_neg (by omega)]
theorem ledL_mid (t : Int) (x y z : List St) : ledL t x.length (x.length + y.length) (x ++ y ++ z) = x ++ y.map (ledS t) ++ z := el_ext (by rw [ledL_len]; simp) fun j hj => by
  rw [ledL_len] at hj
  rw [ledL_el hj]
  simp only [List.length_append] at hj
  by_cases h1 : j < x.length
  · rw [if_neg (by omega), List.append_assoc, List.append_assoc, el_left h1, el_left h1]
  · by_cases h2 : j < x.length + y.length
    · have e1 : el (x ++ y ++ z) j = el y (j - x.length) := by rw [el_left (l := x ++ y) (by simp; omega), el_right (by omega)]
      have e2 : el (x ++ y.map (ledS t) ++ z) j = el (y.map (ledS t)) (j - x.length) := by rw [el_left (l := x ++ y.map (ledS t)) (by simp; omega), el_right (by omega)]
      rw [if_pos (by omega), e1, e2, el_map (by omega)]
    · rw [if_neg (by omega), el_right (l := x ++ y) (by simp; omega), el_right (l := x ++ y.map (ledS t)) (by simp; omega)]
      simp
def HeldF (b : Nat) (vs : Value) (g o : Nat) (x : Value) (w : World) : Prop := w.cell? ⟨b, 1, none⟩ = some vs ∧ w.cell? ⟨g, o, none⟩ = some x
set_option maxRecDepth 100000 in
set_option maxHeartbeats 1600000 in
/-- b.leadOn(first, behind, t). -/
theorem leadOn_any (b base a k : Nat) (z t : Int) (l : List St) (W : World) (h : Bui W 50 base b z l) (hb : b < base) (hbW : base ≤ W.heap.size) (hak : a ≤ k) (hkl : k ≤ l.length) (hll : l.length ≤ 1000) (hal : ∀ j, j < l.length → (el l j).2.length ≤ 1000) :
    Calls Try.prog 12 #[.pointer (some ⟨b, 0, none⟩), .int .i64 a, .int .i64 k, .int .i64 t] W fun e W' => e = .returned (.tuple #[]) ∧ Bui W' 50 base b z (ledL t a k l) ∧ Below b W W' ∧ Kept (some b) W W' := by
  have H := hidP h
  have HAL := hidP hal
  have HS : Hid (ledL t a a l = l) := ledL_start t a l
  have HN : Hid (∀ q, a ≤ q → q < l.length → ledL t a (q + 1) l = (ledL t a q l).set q (ledS t (el l q))) := fun q h1 h2 => ledL_step h1 h2
  have HH : Hid (∀ q, q < l.length → el (ledL t a q l) q = el l q) := fun q h2 => ledL_here h2
  have HL : Hid (∀ q, (ledL t a q l).length = l.length) := fun q => ledL_len _ _ _ _
  obtain ⟨TT, hTT⟩ : ∃ TT : Nat → List St, ∀ j, ledL t a j l = TT j := ⟨_, fun _ => rfl⟩
  simp only [hTT] at HS HN HH HL
  rw [hTT]
  clear hTT h hal
  go_enter Try.func12, Try.ntmps12
  go_wp2
  go_loopw [8] (fun i wr => ∃ (q : Nat), a ≤ q ∧ q ≤ k ∧ i = .int .i64 q ∧ Hid (Bui wr 50 base b z (TT q)) ∧ Hid (Below b W wr) ∧ Hid (Kept (some b) W wr)) (fun i _ => k - (intOf i).toNat)
  case atStart => exact ⟨a, Nat.le_refl _, hak, rfl, by rw [HS.out]; exact H, Below.refl _ _, Kept.refl _ _⟩
  case round =>
    obtain ⟨q, haq, hqk, rfl, hB, hbl, hkp⟩ := hrel
    have hsr := hbl.out.size
    by_cases hq : q < k
    · have hq0 : (0 : Int) ≤ (q : Int) := by omega
      have hq1 : (q : Int) < (k : Int) := by omega
      have HNq := hidP (HN.out q haq (by omega))
      have HHq := hidP (HH.out q (by omega))
      have HLq := hidP (HL.out q)
      have hal := HAL.out q (by omega)
      generalize TT q = Lq at *
      generalize el l q = s at *
      have hB' := hB.out
      obtain ⟨vo, h1, h2⟩ := hB'
      obtain ⟨g, cap, hv, hbg, hgl, hc, hf, _, _⟩ := h2.finAt q (by rw [HLq.out]; omega) 0
      subst hv
      rw [HHq.out] at hc
      rw [HLq.out] at h1 h2
      have m1 := h1.cell 1 (v := .slice (some ⟨g, 0, none⟩) l.length cap) rfl
      have hql : (q : Int) < (l.length : Int) := by omega
      have hwq : IntKind.i64.wrap ((q : Int) + 1) = (q : Int) + 1 := wrapI (by omega) (by omega)
      clear h1 h2
      by_cases hfin : s.1 = 1000000001
      · have HQ : Hid (TT (q + 1) = Lq) := by
          show _ = _
          rw [HNq.out]
          exact set_same (by rw [HLq.out]; omega) (by rw [HHq.out]; unfold ledS; rw [if_pos hfin])
        have hf' : (s.1 != 1000000001) = false := by simpa using hfin
        rw [hfin] at hc
        clear hf' hfin
        go_wp2
        go_roundw
        case rel => exact ⟨q + 1, by omega, by omega, by go_num, by rw [HQ.out]; exact hB, hbl, hkp⟩
        case measure => simp [intOf]; omega
      · have HLK : Hid (∀ W2, Bui W2 50 base b z Lq → base ≤ W2.heap.size → Calls Try.prog 18 #[.pointer (some ⟨b, 0, none⟩), .int .i64 q, .int .i64 t, .int .i64 s.1] W2 fun e W' => e = .returned (.tuple #[]) ∧ Bui W' 50 base b z (Lq.set q (lnkS t s.1 s)) ∧ Below b W2 W' ∧ Kept (some b) W2 W') := fun W2 hW hs => by
          have := link_any b base q z t s.1 Lq W2 hW hb hs (by rw [HLq.out]; omega) (by rw [HHq.out]; omega) (by rw [HLq.out]; omega)
          rw [HHq.out] at this
          exact this
        have HQ : Hid ((Lq.set q (lnkS t s.1 s)).set q (1000000001, (lnkS t s.1 s).2) = TT (q + 1)) := by
          show _ = _
          rw [HNq.out, List.set_set]
          unfold ledS lnkS
          rw [if_neg hfin]
        have hf' : (s.1 != 1000000001) = true := bne_iff_ne.2 hfin
        obtain ⟨fin, ar⟩ := s
        simp only at hc HLK HQ hf' hfin
        clear hfin
        have hbW' : base ≤ wr.heap.size := by omega
        go_wp2_with (first
          | (go_at_call 18; (with_reducible refine (HLK.out _ hB.out hbW').mono ?_); rintro e w1 ⟨rfl, hB1, hb1, hk1⟩; have HB1 := hidP hB1; obtain ⟨v1, k1, k2⟩ := hB1; obtain ⟨g1, cap1, hv1, hbg1, hgl1, hc1, hf1, ho1, hk2⟩ := k2.finAt q (by rw [List.length_set, HLq.out]; omega) 1000000001; rw [List.length_set, HLq.out] at hv1; subst hv1; rw [Pl.el_set (by rw [HLq.out]; omega), if_pos rfl] at hc1 ho1; rw [HQ.out] at ho1; have KB1 := hidP k1; have n1 := k1.cell 1 (v := .slice (some ⟨g1, 0, none⟩) l.length cap1) rfl; have HO1 := hidP ho1; have HK2 := hidP (hk1.trans (hk2.any _)); have HW1 := hidP hb1; clear k1 k2 ho1 hk1 hk2 hb1))
        go_roundw
        case rel => exact ⟨q + 1, by omega, by omega, by go_num, ⟨_, KB1.out.setO ⟨g1, q * 2, none⟩ _ (by show b ≠ g1; omega), HO1.out⟩, (hbl.out.trans HW1.out).setCell (p := ⟨g1, q * 2, none⟩) (by show b ≤ g1; omega) _, hkp.out.trans HK2.out⟩
        case measure => simp [intOf]; omega
    · have hnq : ¬ (q : Int) < (k : Int) := by omega
      obtain rfl : q = k := by omega
      go_wp2
      go_end0
      exact ⟨rfl, hB.out, hbl.out, hkp.out⟩
theorem res_built (tm : Array Value) (W : World) (R : Nat) (ec : Int) (x0 x1 : Value) (hB : Blk W R #[x0, x1] 28) (h2 : tm.getD 2 undef = .pointer (some ⟨R, 0, none⟩)) (h3 : tm.getD 3 undef = .int .i64 ec) : (results Try.f13 tm).run Try.prog W = .ok (.tuple #[.agg #[x0, x1], .int .i64 ec]) W := by
  have c0 := hB.cell 0 (v := x0) rfl
  have c1 := hB.cell 1 (v := x1) rfl
  simp only [Array.getD_eq_getD_getElem?] at h2 h3
  simp [results, Try.results13, go_sem, h2, h3, c0, c1]
/-- A machine of the call's own and an error are answered. -/
def BuiRes (base : Nat) (x : Mc) (ec : Int) (w : World) (e : Ending) (w' : World) : Prop := ∃ vs, e = .returned (.tuple #[.agg #[.int .i64 x.1, vs], .int .i64 ec]) ∧ OwnSts w' base vs x.2 ∧ Below w.heap.size w w'
theorem OwnSts.setB {w : World} {base : Nat} {v : Value} {l : List St} (h : OwnSts w base v l) {a : Addr} (ha : a.block < base) (u : Value) : OwnSts (w.setCell a u) base v l := by
  obtain ⟨vs, h1, h2, h3⟩ := h
  exact ⟨vs, ownsRow_setCell_below h1 ha u, h2, fun j hj => ⟨(h3 j hj).1, ownsRow_setCell_below (h3 j hj).2 ha u⟩⟩
theorem BuiRes.rat {base R : Nat} {x : Mc} {ec : Int} {w w1 : World} {vs : Value} (ho : OwnSts w1 base vs x.2) (hR : R < base) (hb : Below w.heap.size w w1) (hwR : w.heap.size ≤ R) : RatRes x ec w (.returned (.tuple #[.agg #[.int .i64 x.1, vs], .int .i64 ec])) ((w1.setCell ⟨R, 0, none⟩ (.int .i64 x.1)).setCell ⟨R, 1, none⟩ vs) :=
  ⟨_, rfl, ⟨vs, rfl, ((ho.setB (a := ⟨R, 0, none⟩) hR _).setB (a := ⟨R, 1, none⟩) hR _).sts⟩, (hb.setCell (p := ⟨R, 0, none⟩) hwR _).setCell (p := ⟨R, 1, none⟩) hwR _⟩
/-- b.built(). -/
theorem built_any (b base : Nat) (z : Int) (l : List St) (W : World) (h : Bui W 50 base b z l) (hbW : base ≤ W.heap.size) (hok : okM (z, l)) :
    Calls Try.prog 13 #[.pointer (some ⟨b, 0, none⟩)] W fun e W' => BuiRes base (if faultM (z, l) = 0 then (z, l) else (0, [])) (if faultM (z, l) = 0 then 0 else 5) W e W' := by
  obtain ⟨v, h1, h2⟩ := h
  have HM : Hid (Mach W (.agg #[.int .i64 z, v]) (z, l)) := ⟨_, rfl, h2.own.sts⟩
  have HB := hidP h1
  have HO := hidP h2.own
  obtain ⟨a, cap, hv⟩ := h2.sl
  subst hv
  have HK := hidP hok
  have c0 := h1.cell 0 (v := .int .i64 z) rfl
  have c1 := h1.cell 1 (v := .slice a l.length cap) rfl
  have hlt := h1.lt
  clear h1 h2 hok
  obtain ⟨r, hr⟩ : ∃ r, faultM (z, l) = r := ⟨_, rfl⟩
  have HR := hidP hr
  rw [hr]
  clear hr
  by_cases h0 : r = 0
  · have h0' : (r != 0) = false := by simpa using h0
    rw [if_pos h0, if_pos h0]
    clear h0
    go_enter Try.func13, Try.ntmps13
    go_wp2_with (first
      | (go_at_call 16; (with_reducible refine (coreCheck_any _ (z, l) _ (HM.out.later (B := W.heap.size) (by go_grown) (Nat.le_refl _)) HK.out r HR.out).mono ?_); rintro e w1 ⟨rfl, hb⟩; simp only [World.size_alloc] at hb; have KR := hidP ((Blk.made W _ 28).below hb (by omega)); have HB1 := hidP (((Below.refl W.heap.size W).alloc (Nat.le_refl _) _).trans (hb.mono (by omega))); have KB := hidP (HB.out.below HB1.out hlt); have e0 := KR.out.cell 0 (v := .int .i64 0) rfl; have e1 := KR.out.cell 1 (v := .slice none 0 0) rfl; have g0 := KR.out.fz 0; have g1 := KR.out.fz 1; have d0 := KB.out.cell 0 (v := .int .i64 z) rfl; have d1 := KB.out.cell 1 (v := .slice a l.length cap) rfl; clear hb))
    exact bodyPost_ret (res_built _ _ W.heap.size 0 _ _ ((KR.out.set 0 (.int .i64 z)).set 1 (.slice a l.length cap)) rfl rfl) rfl ⟨_, rfl, HO.out.laterB ((HB1.out.setCell (Nat.le_refl _) _).setCell (Nat.le_refl _) _), (HB1.out.setCell (Nat.le_refl _) _).setCell (Nat.le_refl _) _⟩
  · have h0' : (r != 0) = true := bne_iff_ne.2 h0
    rw [if_neg h0, if_neg h0]
    clear h0
    go_enter Try.func13, Try.ntmps13
    go_wp2_with (first
      | (go_at_call 16; (with_reducible refine (coreCheck_any _ (z, l) _ (HM.out.later (B := W.heap.size) (by go_grown) (Nat.le_refl _)) HK.out r HR.out).mono ?_); rintro e w1 ⟨rfl, hb⟩; simp only [World.size_alloc] at hb; have KR := hidP ((Blk.made W _ 28).below hb (by omega)); have HB1 := hidP (((Below.refl W.heap.size W).alloc (Nat.le_refl _) _).trans (hb.mono (by omega))); have e0 := KR.out.cell 0 (v := .int .i64 0) rfl; have e1 := KR.out.cell 1 (v := .slice none 0 0) rfl; have g0 := KR.out.fz 0; have g1 := KR.out.fz 1; clear hb))
    exact bodyPost_ret (res_built _ _ W.heap.size 5 _ _ ((KR.out.set 0 (.int .i64 0)).set 1 (.slice none 0 0)) rfl rfl) rfl ⟨_, rfl, OwnSts.nil _ _, (HB1.out.setCell (Nat.le_refl _) _).setCell (Nat.le_refl _) _⟩
theorem idx2_0 (a b c d : Value) (w : World) : (Instr.index 47 (.agg #[a, b, c, d]) (.int .i64 0)).run Try.prog w = .ok (.agg #[a, b]) w := by kernel_rfl
theorem idx2_1 (a b c d : Value) (w : World) : (Instr.index 47 (.agg #[a, b, c, d]) (.int .i64 1)).run Try.prog w = .ok (.agg #[c, d]) w := by kernel_rfl
set_option maxRecDepth 100000 in
/-- check(both). -/
theorem check2_any (za zb : Int) (aa ab : Option Addr) (ca cb : Nat) (la lb : List St) (w : World) (ha : Mach w (.agg #[.int .i64 za, .slice aa la.length ca]) (za, la)) (hoka : okM (za, la)) (hb : Mach w (.agg #[.int .i64 zb, .slice ab lb.length cb]) (zb, lb)) (hokb : okM (zb, lb)) :
    Calls Try.prog 10 #[.agg #[.int .i64 za, .slice aa la.length ca, .int .i64 zb, .slice ab lb.length cb]] w fun e w' => e = .returned (.int .i64 (if faultM (za, la) ≠ 0 then faultM (za, la) else faultM (zb, lb))) ∧ Below w.heap.size w w' := by
  have HA := hidP ha
  have HB := hidP hb
  have HKA := hidP hoka
  have HKB := hidP hokb
  obtain ⟨ra, hra⟩ : ∃ r, faultM (za, la) = r := ⟨_, rfl⟩
  obtain ⟨rb, hrb⟩ : ∃ r, faultM (zb, lb) = r := ⟨_, rfl⟩
  have HRA := hidP hra
  have HRB := hidP hrb
  rw [hra, hrb]
  clear hoka hokb ha hb hra hrb
  obtain ⟨r, hr⟩ : ∃ r, (if ra ≠ 0 then ra else rb) = r := ⟨_, rfl⟩
  have HRR := hidP hr
  rw [hr]
  clear hr
  generalize la.length = na at *
  generalize lb.length = nb at *
  go_enter Try.func10, Try.ntmps10
  go_wp2
  go_loopw [7] (fun i wr => ∃ (k : Int), 0 ≤ k ∧ k ≤ 2 ∧ i = .int .i64 k ∧ (1 ≤ k → ra = 0) ∧ (2 ≤ k → rb = 0) ∧ Hid (Below w.heap.size w wr)) (fun i _ => 2 - (intOf i).toNat)
  case atStart => exact ⟨0, by omega, by omega, rfl, by omega, by omega, hidP (by go_grown)⟩
  case round =>
    obtain ⟨k, hk0, hk, rfl, h1, h2, hb⟩ := hrel
    have i0 := idx2_0 (.int .i64 za) (.slice aa na ca) (.int .i64 zb) (.slice ab nb cb)
    have i1 := idx2_1 (.int .i64 za) (.slice aa na ca) (.int .i64 zb) (.slice ab nb cb)
    have hsr := hb.out.size
    rcases (show k = 0 ∨ k = 1 ∨ k = 2 by omega) with rfl | rfl | rfl
    · have HC : Hid (∀ W, Below w.heap.size w W → Calls Try.prog 16 #[.agg #[.int .i64 za, .slice aa na ca]] W fun e w' => e = .returned (.int .i64 ra) ∧ Below W.heap.size W w') := fun W hW => coreCheck_any _ (za, la) W (HA.out.later hW (Nat.le_refl _)) HKA.out ra HRA.out
      clear h1 h2
      by_cases h0 : ra = 0
      · have h0' : (ra != 0) = false := by simpa using h0
        have H0 := hidP h0
        clear h0
        go_wp2_with (first
          | (go_at_call 16; (with_reducible refine (HC.out _ (hb.out.alloc hsr _)).mono ?_); rintro e w1 ⟨rfl, hb1⟩; simp only [World.size_alloc] at hb1; have HB1 := hidP ((hb.out.alloc hsr _).trans (hb1.mono (by omega))); clear hb1))
        go_roundw
        case rel => exact ⟨1, by omega, by omega, by go_num, fun _ => H0.out, by omega, HB1⟩
        case measure => simp [intOf]
      · have h0' : (ra != 0) = true := bne_iff_ne.2 h0
        have HR : Hid (r = ra) := by show _ = _; rw [← HRR.out, if_pos h0]
        clear h0
        go_wp2_with (first
          | (go_at_call 16; (with_reducible refine (HC.out _ (hb.out.alloc hsr _)).mono ?_); rintro e w1 ⟨rfl, hb1⟩; simp only [World.size_alloc] at hb1; have HB1 := hidP ((hb.out.alloc hsr _).trans (hb1.mono (by omega))); clear hb1))
        go_ret
        exact ⟨by rw [HR.out]; rfl, HB1.out⟩
    · have HC : Hid (∀ W, Below w.heap.size w W → Calls Try.prog 16 #[.agg #[.int .i64 zb, .slice ab nb cb]] W fun e w' => e = .returned (.int .i64 rb) ∧ Below W.heap.size W w') := fun W hW => coreCheck_any _ (zb, lb) W (HB.out.later hW (Nat.le_refl _)) HKB.out rb HRB.out
      have HRA0 := hidP (h1 (by omega))
      have HR : Hid (r = rb) := by show _ = _; rw [← HRR.out, if_neg (by rw [HRA0.out]; simp)]
      clear h1 h2
      by_cases h0 : rb = 0
      · have h0' : (rb != 0) = false := by simpa using h0
        have H0 := hidP h0
        clear h0
        go_wp2_with (first
          | (go_at_call 16; (with_reducible refine (HC.out _ (hb.out.alloc hsr _)).mono ?_); rintro e w1 ⟨rfl, hb1⟩; simp only [World.size_alloc] at hb1; have HB1 := hidP ((hb.out.alloc hsr _).trans (hb1.mono (by omega))); clear hb1))
        go_roundw
        case rel => exact ⟨2, by omega, by omega, by go_num, fun _ => HRA0.out, fun _ => H0.out, HB1⟩
        case measure => simp [intOf]
      · have h0' : (rb != 0) = true := bne_iff_ne.2 h0
        clear h0
        go_wp2_with (first
          | (go_at_call 16; (with_reducible refine (HC.out _ (hb.out.alloc hsr _)).mono ?_); rintro e w1 ⟨rfl, hb1⟩; simp only [World.size_alloc] at hb1; have HB1 := hidP ((hb.out.alloc hsr _).trans (hb1.mono (by omega))); clear hb1))
        go_ret
        exact ⟨by rw [HR.out]; rfl, HB1.out⟩
    · have HR : Hid (r = 0) := by
        show _ = _
        rw [← HRR.out, if_neg (by rw [h1 (by omega)]; simp), h2 (by omega)]
      clear h1 h2
      go_wp2
      go_ret
      exact ⟨by rw [HR.out]; rfl, hb.out⟩
end Go.Proofs.Ytnbiojjcebdljaa.Wt
namespace Go.Proofs.Ytnbiojjcebdljaa.Wt
open Go.ChangeShapes Go.WideShapes Go.ChangeAt Go.RowKit
open Go.Proofs.Ytnbiojjcebdljaa.Pl
set_option linter.unusedVariables false
set_option linter.unusedSimpArgs false
theorem fit_of {x : Mc} (h : sizeB x = true → faultM x = 0) : (if faultM x = 0 then x else (0, [])) = fitM x ∧ (if faultM x = 0 then (0 : Int) else 5) = fitE x := by
  unfold fitM fitE
  by_cases hs : sizeB x = true
  · rw [if_pos hs, if_pos hs, if_pos (h hs), if_pos (h hs)]; exact ⟨rfl, rfl⟩
  · have h0 : faultM x ≠ 0 := fun e => hs (faultM_zero e).1
    rw [if_neg hs, if_neg hs, if_neg h0, if_neg h0]; exact ⟨rfl, rfl⟩
theorem el_arcN {l : List St} {j : Nat} (hj : j < l.length) : (el l j).2.length ≤ arcN l := by
  have h1 := arcN_take hj
  have h2 := arcN_takeR l (j + 1)
  omega
/-- States moved. -/
def mvL (d : Nat) (l : List St) : List St := l.map (fun s => shS (d : Int) s.1 [] s)
def staN (z : Int) (d : Nat) : Int := if z = -1 then -1 else z + (d : Int)
theorem mvL_len (d : Nat) (l : List St) : (mvL d l).length = l.length := by simp [mvL]
theorem mvL_arcs (d : Nat) (l : List St) : arcN (mvL d l) = arcN l := arcN_sh l d (fun s => s.1)
theorem lnk_hop (z : Int) (d : Nat) (x f : Int) (ar : List Ar) (hz : -1 ≤ z) : lnkS (staN z d) x (f, ar) = (f, ar ++ hopA z (d : Int) x) := by
  unfold lnkS staN hopA
  by_cases h : z = -1
  · simp [h]
  · rw [if_neg h, if_neg (by omega), if_neg (by omega)]
theorem led_mv (t : Int) (d : Nat) (l : List St) : (mvL d l).map (ledS t) = l.map (fun s => shS (d : Int) 1000000001 (if s.1 = 1000000001 then [] else if t = -1 then [] else [(0, 0, s.1, t)]) s) := by
  unfold mvL
  rw [List.map_map]
  refine List.map_congr_left fun s hs => ?_
  show ledS t (shS _ s.1 [] s) = _
  unfold ledS shS
  by_cases h : s.1 = 1000000001
  · simp [h]
  · simp [h]
def staL1 (m : Mc) : List St := (0, []) :: mvL 1 m.2
def staL2 (m : Mc) : List St := (0, hopA m.1 1 0) :: mvL 1 m.2
theorem sta_step1 (m : Mc) (hz : -1 ≤ m.1) : (staL1 m).set 0 (lnkS (staN m.1 1) 0 (el (staL1 m) 0)) = staL2 m := by
  show (lnkS (staN m.1 1) 0 (0, [])) :: mvL 1 m.2 = _
  rw [lnk_hop _ _ _ _ _ hz]
  rfl
theorem sta_step2 (m : Mc) : ledL 0 1 (m.2.length + 1) (staL2 m) = (staM m).2 := by
  have h2 := ledL_mid 0 [(0, hopA m.1 1 0)] (mvL 1 m.2) []
  simp only [List.append_nil, List.length_cons, List.length_nil, mvL_len, Nat.zero_add] at h2
  rw [Nat.add_comm 1 m.2.length] at h2
  refine h2.trans ?_
  rw [led_mv]
  simp only [staM, List.singleton_append]
  refine congrArg (List.cons _) (List.map_congr_left fun s hs => ?_)
  unfold endA hopA
  simp
def uniL0 : List St := [(1000000001, [])]
def uniL1 (a : Mc) : List St := (1000000001, hopA a.1 1 0) :: mvL 1 a.2
theorem uni_step1 (a : Mc) (hz : -1 ≤ a.1) : (uniL0 ++ mvL 1 a.2).set 0 (lnkS (staN a.1 1) 0 (el (uniL0 ++ mvL 1 a.2) 0)) = uniL1 a := by
  show (lnkS (staN a.1 1) 0 (1000000001, [])) :: mvL 1 a.2 = _
  rw [lnk_hop _ _ _ _ _ hz]
  rfl
theorem uni_step2 (a b : Mc) (hz : -1 ≤ b.1) : (uniL1 a ++ mvL (1 + a.2.length) b.2).set 0 (lnkS (staN b.1 (1 + a.2.length)) 0 (el (uniL1 a ++ mvL (1 + a.2.length) b.2) 0)) = (uniM a b).2 := by
  show (lnkS (staN b.1 (1 + a.2.length)) 0 (1000000001, hopA a.1 1 0)) :: (mvL 1 a.2 ++ mvL (1 + a.2.length) b.2) = _
  rw [lnk_hop _ _ _ _ _ hz]
  unfold uniM mvL
  simp
theorem cat_step (a b : Mc) (hz : -1 ≤ b.1) : ledL (staN b.1 a.2.length) 0 a.2.length (mvL 0 a.2 ++ mvL a.2.length b.2) = (catM a b).2 := by
  have h2 := ledL_mid (staN b.1 a.2.length) [] (mvL 0 a.2) (mvL a.2.length b.2)
  simp only [List.nil_append, List.length_nil, mvL_len, Nat.zero_add] at h2
  refine h2.trans ?_
  rw [led_mv]
  unfold catM
  refine congrArg (· ++ _) (List.map_congr_left fun s hs => ?_)
  unfold endA hopA staN
  by_cases h : b.1 = -1
  · simp [h]
  · have h1 : ¬ b.1 < 0 := by omega
    have h2 : ¬ b.1 + (a.2.length : Int) = -1 := by omega
    simp [h, h1, h2]
theorem boxedFour {w w1 : World} {c0 c1 c2 c3 : Array Value} {t0 t1 t2 t3 : TypeId} {n : Nat} (hb : Below n ((((w.alloc (.cells c0 t0)).alloc (.cells c1 t1)).alloc (.cells c2 t2)).alloc (.cells c3 t3)) w1) (hn : n = w.heap.size + 4) : w.heap.size + 4 ≤ w1.heap.size ∧ Blk w1 w.heap.size c0 t0 ∧ Blk w1 (w.heap.size + 1) c1 t1 ∧ Blk w1 (w.heap.size + 2) c2 t2 ∧ Blk w1 (w.heap.size + 3) c3 t3 ∧ Below w.heap.size w w1 := by
  subst hn
  have h := hb.size
  simp only [World.size_alloc] at h
  have k1 := Blk.made (w.alloc (.cells c0 t0)) c1 t1
  have k2 := Blk.made ((w.alloc (.cells c0 t0)).alloc (.cells c1 t1)) c2 t2
  have k3 := Blk.made (((w.alloc (.cells c0 t0)).alloc (.cells c1 t1)).alloc (.cells c2 t2)) c3 t3
  simp only [World.size_alloc] at k1 k2 k3
  exact ⟨h, ((((Blk.made w c0 t0).alloc _).alloc _).alloc _).below hb (by omega), ((k1.alloc _).alloc _).below hb (by omega), (k2.alloc _).below hb (by omega), k3.below hb (by omega), (((((Below.refl _ _).alloc (Nat.le_refl _) _).alloc (by simp) _).alloc (by simp; omega) _).alloc (by simp; omega) _).trans (hb.mono (by omega))⟩
/-- A store into a block that holds no part of it. -/
theorem Bui.setA {w : World} {t t2 : TypeId} {base b c : Nat} {z : Int} {l : List St} {cs : Array Value} (h : Bui w t base b z l) (hc : Blk w c cs t2) (hbc : b ≠ c ∧ c < base) (o : Nat) (u : Value) : Bui (w.setCell ⟨c, o, none⟩ u) t base b z l := by
  obtain ⟨v, h1, h2⟩ := h
  exact ⟨v, h1.setO _ _ hbc.1, h2.setCell (a := ⟨c, o, none⟩) hbc.2 _⟩
theorem Bui.setZ {w : World} {t : TypeId} {base b : Nat} {z : Int} {l : List St} (h : Bui w t base b z l) (hb : b < base) (y : Int) : Bui (w.setCell ⟨b, 0, none⟩ (.int .i64 y)) t base b y l := by
  obtain ⟨v, h1, h2⟩ := h
  exact ⟨v, h1.set 0 _, h2.setCell (a := ⟨b, 0, none⟩) hb _⟩
theorem res_cat (tm : Array Value) (W : World) (R : Nat) (ec : Int) (x0 x1 : Value) (hB : Blk W R #[x0, x1] 28) (h2 : tm.getD 4 undef = .pointer (some ⟨R, 0, none⟩)) (h3 : tm.getD 5 undef = .int .i64 ec) : (results Try.f5 tm).run Try.prog W = .ok (.tuple #[.agg #[x0, x1], .int .i64 ec]) W := by
  have c0 := hB.cell 0 (v := x0) rfl
  have c1 := hB.cell 1 (v := x1) rfl
  simp only [Array.getD_eq_getD_getElem?] at h2 h3
  simp [results, Try.results5, go_sem, h2, h3, c0, c1]
set_option maxRecDepth 100000 in
theorem catP_bad (va vb : Value) (ma mb : Mc) (w : World) (ha : Mach w va ma) (hoka : okM ma) (hb : Mach w vb mb) (hokb : okM mb) (r : Int) (hr : (if faultM ma ≠ 0 then faultM ma else faultM mb) = r) (h0 : r ≠ 0) :
    Calls Try.prog 5 #[va, vb] w fun e w' => RatRes (0, []) r w e w' := by
  obtain ⟨za, la⟩ := ma
  obtain ⟨zb, lb⟩ := mb
  have h0' : (r != 0) = true := bne_iff_ne.2 h0
  obtain ⟨vsa, rfl, hSa⟩ := ha
  obtain ⟨aa, ca, rfl⟩ := hSa.sl
  obtain ⟨vsb, rfl, hSb⟩ := hb
  obtain ⟨ab, cb, rfl⟩ := hSb.sl
  have HMA : Hid (Mach w (.agg #[.int .i64 za, .slice aa la.length ca]) (za, la)) := ⟨_, rfl, hSa⟩
  have HMB : Hid (Mach w (.agg #[.int .i64 zb, .slice ab lb.length cb]) (zb, lb)) := ⟨_, rfl, hSb⟩
  have HKA := hidP hoka
  have HKB := hidP hokb
  have HRR := hidP hr
  clear hSa hSb hoka hokb hr h0
  generalize hna : la.length = na at *
  generalize hnb : lb.length = nb at *
  have HNA := hidP hna
  have HNB := hidP hnb
  clear hna hnb
  have HC : Hid (∀ W, Below w.heap.size w W → Calls Try.prog 10 #[.agg #[.int .i64 za, .slice aa na ca, .int .i64 zb, .slice ab nb cb]] W fun e w' => e = .returned (.int .i64 r) ∧ Below W.heap.size W w') := fun W hW => by
    have h9 := check2_any za zb aa ab ca cb la lb W (by rw [HNA.out]; exact HMA.out.later hW (Nat.le_refl _)) HKA.out (by rw [HNB.out]; exact HMB.out.later hW (Nat.le_refl _)) HKB.out
    rw [HRR.out, HNA.out, HNB.out] at h9
    exact h9
  go_enter Try.func5, Try.ntmps5
  go_wp2_with (first
    | (go_at_call 10; (with_reducible refine (HC.out _ (by go_grown)).mono ?_); rintro e w1 ⟨rfl, hb⟩; obtain ⟨s1, b1, b2, b3, b4, hb1⟩ := boxedFour hb (by simp); have HB1 : Hid (Below w.heap.size w w1) := hb1; have KR := hidP b3; have e0 := b3.cell 0 (v := .int .i64 0) rfl; have e1 := b3.cell 1 (v := .slice none 0 0) rfl; have g0 := b3.fz 0; have g1 := b3.fz 1; clear b1 b2 b3 b4 hb1 hb))
  exact bodyPost_ret (res_cat _ _ (w.heap.size + 2) r _ _ ((KR.out.set 0 (.int .i64 0)).set 1 (.slice none 0 0)) rfl rfl) rfl ⟨_, rfl, mach_zeroR _, (HB1.out.setCell (p := ⟨w.heap.size + 2, 0, none⟩) (by show w.heap.size ≤ w.heap.size + 2; omega) _).setCell (p := ⟨w.heap.size + 2, 1, none⟩) (by show w.heap.size ≤ w.heap.size + 2; omega) _⟩
set_option maxRecDepth 100000 in
set_option maxHeartbeats 1600000 in
theorem concatP_ok (va vb : Value) (ma mb : Mc) (w : World) (ha : Mach w va ma) (hoka : okM ma) (hb : Mach w vb mb) (hokb : okM mb) (h0a : faultM ma = 0) (h0b : faultM mb = 0) :
    Calls Try.prog 5 #[va, vb] w fun e w' => RatRes (fitM (catM ma mb)) (fitE (catM ma mb)) w e w' := by
  obtain ⟨za, la⟩ := ma
  obtain ⟨zb, lb⟩ := mb
  obtain ⟨⟨hz1, hz2⟩, _⟩ := right_parts h0a
  obtain ⟨⟨hy1, hy2⟩, _⟩ := right_parts h0b
  have a60 := (right_size h0a).1
  have a400 := (right_size h0a).2
  have b60 := (right_size h0b).1
  have b400 := (right_size h0b).2
  simp only at hz1 hz2 hy1 hy2 a60 a400 b60 b400
  obtain ⟨vsa, rfl, hSa⟩ := ha
  obtain ⟨aa, ca, rfl⟩ := hSa.sl
  obtain ⟨vsb, rfl, hSb⟩ := hb
  obtain ⟨ab, cb, rfl⟩ := hSb.sl
  have HMA : Hid (Mach w (.agg #[.int .i64 za, .slice aa la.length ca]) (za, la)) := ⟨_, rfl, hSa⟩
  have HMB : Hid (Mach w (.agg #[.int .i64 zb, .slice ab lb.length cb]) (zb, lb)) := ⟨_, rfl, hSb⟩
  have HC : Hid (∀ W, Below w.heap.size w W → Calls Try.prog 10 #[.agg #[.int .i64 za, .slice aa la.length ca, .int .i64 zb, .slice ab lb.length cb]] W fun e w' => e = .returned (.int .i64 0) ∧ Below W.heap.size W w') := fun W hW => by
    have h9 := check2_any za zb aa ab ca cb la lb W (HMA.out.later hW (Nat.le_refl _)) hoka (HMB.out.later hW (Nat.le_refl _)) hokb
    rw [if_neg (by simp [h0a]), h0b] at h9
    exact h9
  have HF := hidP (fit_of (x := catM (za, la) (zb, lb)) (catM_right h0a h0b))
  have HOK : Hid (okM (za, (catM (za, la) (zb, lb)).2)) := by
    have h5 := catM_len (za, la) (zb, lb)
    have h6 := catM_arcs (za, la) (zb, lb)
    simp only at h5 h6
    exact small_ok (by simp only; omega) (by simp only; omega)
  have hu1 : arcN (mvL 0 la ++ mvL la.length lb) = arcN la + arcN lb := by rw [arcN_append, mvL_arcs, mvL_arcs]
  have hl1 : (mvL 0 la).length = la.length := mvL_len _ _
  have hl2 : (mvL 0 la ++ mvL la.length lb).length = la.length + lb.length := by rw [List.length_append, mvL_len, mvL_len]
  have hsa : staN za 0 = za := by unfold staN; split <;> omega
  have hA0 : Hid (∀ W2 b base, Bui W2 50 base b 0 [] → b < base → base ≤ W2.heap.size → Below w.heap.size w W2 → w.heap.size ≤ b → Calls Try.prog 11 #[.pointer (some ⟨b, 0, none⟩), .agg #[.int .i64 za, .slice aa la.length ca]] W2 fun e W' => e = .returned (.int .i64 za) ∧ Bui W' 50 base b 0 (mvL 0 la) ∧ Below b W2 W' ∧ Kept (some b) W2 W') := fun W2 b base h1 h2 h3 h4 h5 => by
    have h9 := add_any b base 0 [] (za, la) _ w W2 h1 h2 h3 HMA.out h4 h5 h0a (by simp)
    have h8 : (if za = -1 then -1 else za + (([] : List St).length : Int)) = za := hsa
    simp only [h8] at h9
    exact h9
  have hA1 : Hid (∀ W2 b base, Bui W2 50 base b 0 (mvL 0 la) → b < base → base ≤ W2.heap.size → Below w.heap.size w W2 → w.heap.size ≤ b → Calls Try.prog 11 #[.pointer (some ⟨b, 0, none⟩), .agg #[.int .i64 zb, .slice ab lb.length cb]] W2 fun e W' => e = .returned (.int .i64 (staN zb la.length)) ∧ Bui W' 50 base b 0 (mvL 0 la ++ mvL la.length lb) ∧ Below b W2 W' ∧ Kept (some b) W2 W') := fun W2 b base h1 h2 h3 h4 h5 => by
    have h9 := add_any b base 0 (mvL 0 la) (zb, lb) _ w W2 h1 h2 h3 HMB.out h4 h5 h0b (by omega)
    rw [hl1] at h9
    exact h9
  have hA3 : Hid (∀ W2 b base, Bui W2 50 base b za (mvL 0 la ++ mvL la.length lb) → b < base → base ≤ W2.heap.size → Calls Try.prog 12 #[.pointer (some ⟨b, 0, none⟩), .int .i64 0, .int .i64 (la.length : Int), .int .i64 (staN zb la.length)] W2 fun e W' => e = .returned (.tuple #[]) ∧ Bui W' 50 base b za (catM (za, la) (zb, lb)).2 ∧ Below b W2 W' ∧ Kept (some b) W2 W') := fun W2 b base h1 h2 h3 => by
    have h9 := leadOn_any b base 0 la.length za (staN zb la.length) _ W2 h1 h2 h3 (by omega) (by omega) (by omega) (fun j hj => by have := el_arcN hj; omega)
    have h7 := cat_step (za, la) (zb, lb) hy1
    simp only at h7
    rw [h7] at h9
    exact h9
  have HE0 : (za, (catM (za, la) (zb, lb)).2) = catM (za, la) (zb, lb) := rfl
  rw [← HF.out.1, ← HF.out.2]
  clear hSa hSb hoka hokb h0a h0b HF hu1 hl1 hl2 hsa
  generalize catM (za, la) (zb, lb) = X at *
  obtain ⟨X0, X1⟩ := X
  have hX0 : X0 = za := (congrArg Prod.fst HE0).symm
  subst hX0
  clear HE0
  have hA4 : Hid (∀ W2 b base, Bui W2 50 base b X0 X1 → base ≤ W2.heap.size → Calls Try.prog 13 #[.pointer (some ⟨b, 0, none⟩)] W2 fun e W' => BuiRes base (if faultM (X0, X1) = 0 then (X0, X1) else (0, [])) (if faultM (X0, X1) = 0 then 0 else 5) W2 e W') := fun W2 b base h1 h2 => built_any b base X0 X1 W2 h1 h2 HOK.out
  generalize (if faultM ((X0, X1) : Mc) = 0 then ((X0, X1) : Mc) else ((0, []) : Mc)) = XM at *
  generalize (if faultM (X0, X1) = 0 then (0 : Int) else 5) = XE at *
  obtain ⟨M0, M1⟩ := XM
  generalize mvL 0 la ++ mvL la.length lb = V1 at *
  generalize mvL 0 la = U1 at *
  generalize staN zb la.length = sb at *
  obtain ⟨UU, u0, u1, u2⟩ : ∃ UU : Int → List St, UU 0 = [] ∧ UU 1 = U1 ∧ UU 2 = V1 := ⟨fun k => if k = 0 then [] else if k = 1 then U1 else V1, rfl, rfl, rfl⟩
  have HU0 := hidP u0
  have HU1 := hidP u1
  have HU2 := hidP u2
  clear u0 u1 u2
  generalize hna : la.length = na at *
  generalize hnb : lb.length = nb at *
  clear hna hnb
  have i0 := idx2_0 (.int .i64 X0) (.slice aa na ca) (.int .i64 zb) (.slice ab nb cb)
  have i1 := idx2_1 (.int .i64 X0) (.slice aa na ca) (.int .i64 zb) (.slice ab nb cb)
  go_enter Try.func5, Try.ntmps5
  go_wp2_with (first
    | (go_at_call 10; (with_reducible refine (HC.out _ (by go_grown)).mono ?_); rintro e w1 ⟨rfl, hb⟩; obtain ⟨s1, b1, b2, b3, b4, hb1⟩ := boxedFour hb (by simp); have HB1 : Hid (Below w.heap.size w w1) := hb1; have KA := hidP b1; have KR := hidP b3; have KT := hidP b4; have b5 := (b4.alloc (.cells #[.int .i64 0, .slice none 0 0] 50)).alloc (.cells #[.int .i64 0, .int .i64 0] 51); have t0 := b5.cell 0 (v := .int .i64 X0) rfl; have t1 := b5.cell 1 (v := .slice aa na ca) rfl; have t2 := b5.cell 2 (v := .int .i64 zb) rfl; have t3 := b5.cell 3 (v := .slice ab nb cb) rfl; clear b1 b2 b3 b4 b5 hb1 hb))
  have HX2 : Hid (Below w1.heap.size w1 ((w1.alloc (.cells #[.int .i64 0, .slice none 0 0] 50)).alloc (.cells #[.int .i64 0, .int .i64 0] 51))) := ((Below.refl _ _).alloc (Nat.le_refl _) _).alloc (by simp) _
  have HQ2 : Hid (Bui ((w1.alloc (.cells #[.int .i64 0, .slice none 0 0] 50)).alloc (.cells #[.int .i64 0, .int .i64 0] 51)) 50 (w1.heap.size + 2) w1.heap.size 0 []) := ⟨_, (Blk.made w1 _ _).alloc _, OwnApt.nil _ _⟩
  have HT2 : Hid (Blk ((w1.alloc (.cells #[.int .i64 0, .slice none 0 0] 50)).alloc (.cells #[.int .i64 0, .int .i64 0] 51)) (w1.heap.size + 1) #[.int .i64 0, .int .i64 0] 51) := by
    have h9 := Blk.made (w1.alloc (.cells #[.int .i64 0, .slice none 0 0] 50)) #[.int .i64 0, .int .i64 0] 51
    rwa [World.size_alloc] at h9
  go_loopw [22] (fun i wr => ∃ (k x0 x1 : Int), 0 ≤ k ∧ k ≤ 2 ∧ i = .int .i64 k ∧ Hid ((1 ≤ k → x0 = X0) ∧ (2 ≤ k → x1 = sb)) ∧ w1.heap.size + 2 ≤ wr.heap.size ∧ Hid (Blk wr (w1.heap.size + 1) #[.int .i64 x0, .int .i64 x1] 51) ∧ Hid (Bui wr 50 (w1.heap.size + 2) w1.heap.size 0 (UU k)) ∧ Hid (Below w1.heap.size w1 wr)) (fun i _ => 2 - (intOf i).toNat)
  case atStart => exact ⟨0, 0, 0, by omega, by omega, rfl, hidP ⟨by omega, by omega⟩, by simp, HT2, by rw [HU0.out]; exact HQ2, HX2⟩
  case round =>
    clear HX2 HQ2 HT2 t0 t1 t2 t3
    obtain ⟨k, x0, x1, hk0, hk, rfl, hxx, hsr, hT, hB, hb⟩ := hrel
    have HW := hidP (HB1.out.trans (hb.out.mono (by omega)))
    rcases (show k = 0 ∨ k = 1 ∨ k = 2 by omega) with rfl | rfl | rfl
    · rw [HU0.out] at hB
      go_wp2_with (first
        | (go_at_call 11; (with_reducible refine (hA0.out _ w1.heap.size (w1.heap.size + 2) (hB.out.later ((Below.refl _ _).alloc (Nat.le_refl _) _)) (by omega) (by simp; omega) (HW.out.alloc HW.out.size _) (by omega)).mono ?_); rintro e w3 ⟨rfl, hB3, hb3, hk3⟩; have HQ3 := hidP hB3; have HX3 := hidP ((hb.out.alloc (by omega) _).trans hb3); have s3 : w1.heap.size + 2 ≤ w3.heap.size := (by have := hb3.size; simp at this; omega); have KT3 := hidP (hk3.blk (hT.out.alloc _) (by simp) (by decide) (by decide)); have e3 := KT3.out.cell 0 (v := .int .i64 x0) rfl; have f3 := KT3.out.fz 0; clear hB3 hb3 hk3))
      go_roundw
      case rel => exact ⟨1, X0, x1, by omega, by omega, by go_num, hidP ⟨fun _ => rfl, by omega⟩, by simp [World.setCell]; omega, KT3.out.set 0 _, by rw [HU1.out]; exact HQ3.out.setA KT3.out (by omega) _ _, HX3.out.setCell (p := ⟨w1.heap.size + 1, 0, none⟩) (by show w1.heap.size ≤ w1.heap.size + 1; omega) _⟩
      case measure => simp [intOf]
    · rw [HU1.out] at hB
      go_wp2_with (first
        | (go_at_call 11; (with_reducible refine (hA1.out _ w1.heap.size (w1.heap.size + 2) (hB.out.later ((Below.refl _ _).alloc (Nat.le_refl _) _)) (by omega) (by simp; omega) (HW.out.alloc HW.out.size _) (by omega)).mono ?_); rintro e w3 ⟨rfl, hB3, hb3, hk3⟩; have HQ3 := hidP hB3; have HX3 := hidP ((hb.out.alloc (by omega) _).trans hb3); have s3 : w1.heap.size + 2 ≤ w3.heap.size := (by have := hb3.size; simp at this; omega); have KT3 := hidP (hk3.blk (hT.out.alloc _) (by simp) (by decide) (by decide)); have e3 := KT3.out.cell 1 (v := .int .i64 x1) rfl; have f3 := KT3.out.fz 1; clear hB3 hb3 hk3))
      go_roundw
      case rel => exact ⟨2, x0, sb, by omega, by omega, by go_num, hidP ⟨fun _ => hxx.out.1 (by omega), fun _ => rfl⟩, by simp [World.setCell]; omega, KT3.out.set 1 _, by rw [HU2.out]; exact HQ3.out.setA KT3.out (by omega) _ _, HX3.out.setCell (p := ⟨w1.heap.size + 1, 1, none⟩) (by show w1.heap.size ≤ w1.heap.size + 1; omega) _⟩
      case measure => simp [intOf]
    · rw [HU2.out] at hB
      have hx0 := hxx.out.1 (by omega)
      have hx1 := hxx.out.2 (by omega)
      rw [hx0, hx1] at hT
      clear hx0 hx1 hxx
      have t0 := hT.out.cell 0 (v := .int .i64 X0) rfl
      obtain ⟨W2, hW2⟩ : ∃ W2, W2 = wr.setCell ⟨w1.heap.size, 0, none⟩ (.int .i64 X0) := ⟨_, rfl⟩
      have KT2 : Blk W2 (w1.heap.size + 1) #[.int .i64 X0, .int .i64 sb] 51 := by rw [hW2]; exact hT.out.setO _ _ (by show w1.heap.size + 1 ≠ w1.heap.size; omega)
      have HQ2 : Hid (Bui W2 50 (w1.heap.size + 2) w1.heap.size X0 V1) := by rw [hW2]; exact hB.out.setZ (by omega) X0
      have HX2 : Hid (Below w1.heap.size w1 W2) := by rw [hW2]; exact hb.out.setCell (p := ⟨w1.heap.size, 0, none⟩) (Nat.le_refl _) _
      have s2 : w1.heap.size + 2 ≤ W2.heap.size := by rw [hW2]; simp [World.setCell]; omega
      have t1 := KT2.cell 1 (v := .int .i64 sb) rfl
      have u1 := (KA.out.below HX2.out (by omega)).cell 1 (v := .slice aa na ca) rfl
      obtain ⟨v9, q9, _⟩ := hB.out
      have d0 := q9.cell 0 (v := .int .i64 0) rfl
      have d1 := q9.fz 0
      clear q9 KT2
      rw [hW2] at HQ2 HX2 s2 t1 u1
      clear hW2
      go_wp2_with (first
        | (go_at_call 12; (with_reducible refine (hA3.out _ w1.heap.size (w1.heap.size + 2) HQ2.out (by omega) s2).mono ?_); rintro e w5 ⟨rfl, hB5, hb5, hk5⟩; have HQ5 := hidP hB5; have HX5 := hidP (HX2.out.trans hb5); have s5 : w1.heap.size + 2 ≤ w5.heap.size := (by have := hb5.size; omega); clear hB5 hb5 hk5)
        | (go_at_call 13; (with_reducible refine (hA4.out _ w1.heap.size (w1.heap.size + 2) HQ5.out s5).mono ?_); rintro e w6 ⟨v6, rfl, ho6, hb6⟩; obtain ⟨a6, c6, hv6⟩ := ho6.sts.sl; subst hv6; have HO6 := hidP ho6; have HX6 := hidP (HX5.out.trans (hb6.mono (by omega))); have KR6 := hidP (KR.out.below HX6.out (by omega)); have f0 := KR6.out.cell 0 (v := .int .i64 0) rfl; have f1 := KR6.out.cell 1 (v := .slice none 0 0) rfl; have g0 := KR6.out.fz 0; have g1 := KR6.out.fz 1; clear ho6 hb6))
      exact bodyPost_ret (res_cat _ _ (w.heap.size + 2) XE _ _ ((KR6.out.set 0 (.int .i64 M0)).set 1 (.slice a6 M1.length c6)) rfl rfl) rfl (BuiRes.rat (x := (M0, M1)) HO6.out (by omega) (HB1.out.trans (HX6.out.mono (by omega))) (by omega))
theorem concatP_any (va vb : Value) (ma mb : Mc) (w : World) (ha : Mach w va ma) (hoka : okM ma) (hb : Mach w vb mb) (hokb : okM mb) :
    Calls Try.prog 5 #[va, vb] w fun e w' => RatRes (ratM ma mb (catM ma mb)) (ratE ma mb (catM ma mb)) w e w' := by
  unfold ratM ratE
  by_cases h0 : faultM ma = 0
  · have n0 : ¬ faultM ma ≠ 0 := by simp [h0]
    rw [if_neg n0, if_neg n0]
    by_cases h1 : faultM mb = 0
    · have n1 : ¬ faultM mb ≠ 0 := by simp [h1]
      rw [if_neg n1, if_neg n1]
      exact concatP_ok va vb ma mb w ha hoka hb hokb h0 h1
    · rw [if_pos h1, if_pos h1]
      exact catP_bad va vb ma mb w ha hoka hb hokb _ (if_neg n0) h1
  · rw [if_pos h0, if_pos h0]
    exact catP_bad va vb ma mb w ha hoka hb hokb _ (if_pos h0) h0
end Go.Proofs.Ytnbiojjcebdljaa.Wt
