/- States of the call's own: one of them given other arcs. States of the call's own whose rows of arcs lie apart: one state more, one arc more at the last one. States of the call's own whose rows of arcs lie apart: a state with arcs more; an arc more, another end, at any place. -/
import Derived.Test.YthcfkiinjcbajabMcC
import Derived.Test.YthcfkiinjcbajabJ16d
import Derived.Test.YthcfkiinjcbajabJ16j
namespace Go.Proofs.Ythcfkiinjcbajab.Wt
open Go.ChangeShapes Go.WideShapes Go.ChangeAt Go.RowKit
open Go.Proofs.Ythcfkiinjcbajab.Pl
set_option linter.unusedVariables false
theorem flat_set {vs : List (Int × Value)} {q : Nat} (hq : q < vs.length) (va : Value) : (vs.flatMap encS).set (q * 2 + 1) va = (vs.set q ((el vs q).1, va)).flatMap encS := by
  have hl : (vs.flatMap encS).length = vs.length * 2 := flat_length encS_len vs
  apply List.ext_getElem?
  intro t
  by_cases ht : t < vs.length * 2
  · have he : t / 2 * 2 + t % 2 = t := by omega
    have h1 := flat_at encS_len vs (t / 2) (by omega) (t % 2) (by omega)
    have h2 := flat_at encS_len (vs.set q ((el vs q).1, va)) (t / 2) (by simp; omega) (t % 2) (by omega)
    rw [he] at h1 h2
    rw [h2, List.getElem?_set, Pl.el_set (by omega)]
    by_cases hq2 : q = t / 2
    · rw [if_pos hq2]
      have h01 : t = q * 2 ∨ t = q * 2 + 1 := by omega
      rcases h01 with h | h
      · have e0 : t % 2 = 0 := by omega
        rw [if_neg (by omega), h1, ← hq2, e0]; rfl
      · have e0 : t % 2 = 1 := by omega
        rw [if_pos h.symm, if_pos (by omega), e0]; rfl
    · rw [if_neg hq2, if_neg (by omega), h1]
  · rw [List.getElem?_eq_none (by rw [List.length_set, hl]; omega), List.getElem?_eq_none (by rw [flat_length encS_len, List.length_set]; omega)]
theorem other_block {w : World} {base : Nat} {va v : Value} {n k g : Nat} {xs ys : List Value} (h1 : w.ownsRow base 51 4 va n xs) (h2 : w.ownsRow base 45 2 v k ys) (hv : v.ownBlock = some g) : va.ownBlock ≠ some g := by
  rcases own_apart h1 h2 (by decide) with h | h
  · rw [h]; simp
  · rw [← hv]; exact h
theorem OwnSts.put {w : World} {base g cap q : Nat} {va : Value} {l : List St} {s : List Ar} (h : OwnSts w base (.slice (some ⟨g, 0, none⟩) l.length cap) l) (hq : q < l.length) (hva : w.ownsRow base 51 4 va s.length (s.flatMap encA)) :
    OwnSts (w.setCell ⟨g, q * 2 + 1, none⟩ va) base (.slice (some ⟨g, 0, none⟩) l.length cap) (l.set q ((el l q).1, s)) := by
  obtain ⟨vs, h1, h2, h3⟩ := h
  have h1' := h1
  rw [h2] at h1
  have hs := (h1.stored (q * 2 + 1) va).1
  rw [flat_set (by omega)] at hs
  refine ⟨vs.set q ((el vs q).1, va), by rw [List.length_set, h2]; exact hs, by simp [h2], fun j hj => ?_⟩
  have hj' : j < l.length := by simpa using hj
  rw [Pl.el_set (by omega), Pl.el_set hj']
  by_cases e : q = j
  · subst e
    rw [if_pos rfl, if_pos rfl]
    exact ⟨(h3 q hq).1, ownsRow_setCell_other (a := ⟨g, q * 2 + 1, none⟩) hva (other_block (g := g) hva h1' rfl) va⟩
  · rw [if_neg e, if_neg e]
    exact ⟨(h3 j hj').1, ownsRow_setCell_other (a := ⟨g, q * 2 + 1, none⟩) (h3 j hj').2 (other_block (g := g) (h3 j hj').2 h1' rfl) va⟩
/-- A row that the state had keeps what it held. -/
theorem OwnSts.row {w : World} {base : Nat} {v : Value} {l : List St} (h : OwnSts w base v l) : ∃ vs : List (Int × Value), vs.length = l.length ∧ w.ownsRow base 45 2 v vs.length (vs.flatMap encS) ∧ ∀ j, j < l.length → (el vs j).1 = (el l j).1 ∧ w.ownsRow base 51 4 (el vs j).2 (el l j).2.length ((el l j).2.flatMap encA) := by
  obtain ⟨vs, h1, h2, h3⟩ := h
  exact ⟨vs, h2, h1, h3⟩
end Go.Proofs.Ythcfkiinjcbajab.Wt
namespace Go.Proofs.Ythcfkiinjcbajab.Wt
open Go.ChangeShapes Go.WideShapes Go.ChangeAt Go.RowKit
open Go.Proofs.Ythcfkiinjcbajab.Pl
set_option linter.unusedVariables false
set_option linter.unusedSimpArgs false
def Apt (a b : Value) : Prop := a.ownBlock = none ∨ a.ownBlock ≠ b.ownBlock
theorem Apt.symm {a b : Value} (h : Apt a b) : Apt b a := by
  rcases h with h | h
  · unfold Apt; rw [h]; rcases b.ownBlock with _ | _ <;> simp
  · exact .inr (Ne.symm h)
theorem Apt.near {w : World} {a b b' : Value} {base : Nat} {e : TypeId} {s n : Nat} {xs : List Value} (h : Apt a b) (ho : w.ownsRow base e s a n xs) (hn : Near w b.ownBlock b') : Apt a b' := by
  rcases hn with e | ⟨c, e, hc⟩
  · unfold Apt at *; rw [e]; exact h
  · rcases ha : a.ownBlock with _ | k
    · exact .inl ha
    · refine .inr ?_
      rw [ha, e]
      have := (ho.lt k ha).2
      intro e2; simp at e2; omega
def OwnApt (w : World) (base : Nat) (v : Value) (l : List St) : Prop :=
  ∃ vs : List (Int × Value), w.ownsRow base 45 2 v vs.length (vs.flatMap encS) ∧ vs.length = l.length ∧ (∀ j, j < l.length → (el vs j).1 = (el l j).1 ∧ w.ownsRow base 51 4 (el vs j).2 (el l j).2.length ((el l j).2.flatMap encA)) ∧ ∀ i j, i < l.length → j < l.length → i ≠ j → Apt (el vs i).2 (el vs j).2
theorem OwnApt.own {w : World} {base : Nat} {v : Value} {l : List St} (h : OwnApt w base v l) : OwnSts w base v l := by
  obtain ⟨vs, h1, h2, h3, _⟩ := h
  exact ⟨vs, h1, h2, h3⟩
theorem OwnApt.nil (w : World) (base : Nat) : OwnApt w base (.slice none 0 0) [] := ⟨[], World.ownsRow_nil _ _ _ _, rfl, by simp, by simp⟩
theorem OwnApt.later {w w' : World} {base : Nat} {v : Value} {l : List St} (h : OwnApt w base v l) (hb : Below w.heap.size w w') : OwnApt w' base v l := by
  obtain ⟨vs, h1, h2, h3, h4⟩ := h
  exact ⟨vs, ownBelow h1 hb, h2, fun j hj => ⟨(h3 j hj).1, ownBelow (h3 j hj).2 hb⟩, h4⟩
theorem OwnApt.setCell {w : World} {base : Nat} {v : Value} {l : List St} (h : OwnApt w base v l) {a : Addr} (ha : a.block < base) (u : Value) : OwnApt (w.setCell a u) base v l := by
  obtain ⟨vs, h1, h2, h3, h4⟩ := h
  exact ⟨vs, ownsRow_setCell_below h1 ha u, h2, fun j hj => ⟨(h3 j hj).1, ownsRow_setCell_below (h3 j hj).2 ha u⟩, h4⟩
theorem OwnApt.sl {w : World} {base : Nat} {v : Value} {l : List St} (h : OwnApt w base v l) : ∃ a c, v = .slice a l.length c := by
  obtain ⟨vs, h1, h2, _⟩ := h
  obtain ⟨a, c, hv⟩ := own_sl h1
  exact ⟨a, c, by rw [hv, h2]⟩
/-- append(l, State{Final: f}). -/
theorem OwnApt.push {w1 : World} {base : Nat} {vo : Value} {l : List St} (hown : OwnApt w1 base vo l) (f : Int) (hl : (l.length + 1) * 32 ≤ 140737488355328) (hbase : base ≤ w1.heap.size) :
    ∃ a3 c3 w3, (Builtin.append_ #[26, 26] 26 #[vo, .slice (some ⟨w1.heap.size, 0, none⟩) 1 1]).run Try.prog (w1.alloc (.cells #[.int .i64 f, .slice none 0 0] 45)) = .ok (.slice a3 (l.length + 1) c3) w3 ∧ OwnApt w3 base (.slice a3 (l.length + 1) c3) (l ++ [(f, [])]) ∧ Below base w1 w3 := by
  obtain ⟨i1, hi1, hy0, hy1, hy2⟩ := info_parts infoState
  obtain ⟨vs, q1, q2, q3, q4⟩ := hown
  generalize hW : w1.alloc (.cells #[.int .i64 f, .slice none 0 0] 45) = W
  have hB : Below w1.heap.size w1 W := by rw [← hW]; exact (Below.refl _ _).alloc (Nat.le_refl _) _
  have e0 : W.heap[w1.heap.size]? = some (.cells #[.int .i64 f, .slice none 0 0] 45 (0, 0)) := by rw [← hW]; exact Blk.made w1 _ _
  have hws : W.heap.size = w1.heap.size + 1 := by rw [← hW]; simp
  have hvo := ownBelow q1 hB
  obtain ⟨v3, w3, hr, h1, h2, _⟩ := run_append_own (P := Try.prog) W base 26 26 45 i1 _ 2 32 Try.underlying26 hi1 hy0 hy1 hy2 rfl (by omega) vo vs.length (vs.flatMap encS) hvo ⟨w1.heap.size, 0, none⟩ 1 1 [.int .i64 f, .slice none 0 0] rfl (World.news_of_block (cs := #[.int .i64 f, .slice none 0 0]) e0) (by
    intro u hu
    simp at hu
    rcases hu with rfl | rfl <;> rfl) (by rw [q2]; unfold maxLen; omega) (by rw [q2]; exact hl) (by omega)
  have hb3 : Below base w1 w3 := (hB.mono hbase).trans ((Below.refl _ _).grown h2 (by omega) (fun k hk => (q1.lt k hk).1))
  obtain ⟨a3, c3, hv3⟩ := own_sl h1
  rw [q2] at hv3
  subst hv3
  refine ⟨a3, c3, w3, hr, ⟨vs ++ [(f, .slice none 0 0)], by simpa [encS] using h1, by simp [q2], ?_, ?_⟩, hb3⟩
  · intro j hj
    have hj' : j < l.length ∨ j = l.length := by simp at hj; omega
    rcases hj' with hj' | rfl
    · rw [el_left (by omega), el_left hj']
      have := ownBelow (q3 j hj').2 hB
      exact ⟨(q3 j hj').1, this.kept h2 (own_apart this hvo (by decide))⟩
    · rw [el_last, ← q2, el_last]
      exact ⟨rfl, World.ownsRow_nil _ _ _ _⟩
  · intro i j hi hj hij
    have hi' : i < l.length ∨ i = l.length := by simp at hi; omega
    have hj' : j < l.length ∨ j = l.length := by simp at hj; omega
    rcases hi' with hi' | rfl
    · rcases hj' with hj' | rfl
      · rw [el_left (by omega), el_left (by omega)]; exact q4 i j hi' hj' hij
      · rw [← q2, el_last]; exact Apt.symm (.inl rfl)
    · rw [← q2, el_last]; exact .inl rfl
/-- The last state's arcs: l[last].Arcs = append(l[last].Arcs, c). -/
theorem OwnApt.arc {w : World} {base : Nat} {v : Value} {t : List St} {s : St} (h : OwnApt w base v (t ++ [s])) (hbase : base ≤ w.heap.size) (c : Ar) (hl : (s.2.length + 1) * 32 ≤ 140737488355328) :
    ∃ g cap a4 c4, v = .slice (some ⟨g, 0, none⟩) (t.length + 1) cap ∧ base ≤ g ∧ g < w.heap.size ∧ w.cell? ⟨g, t.length * 2 + 1, none⟩ = some (.slice a4 s.2.length c4) ∧
      ∃ a5 c5 w4, (Builtin.append_ #[43, 43] 43 #[.slice a4 s.2.length c4, .slice (some ⟨w.heap.size, 0, none⟩) 1 1]).run Try.prog (w.alloc (.cells #[.int .i64 c.1, .int .i64 c.2.1, .int .i64 c.2.2.1, .int .i64 c.2.2.2] 51)) = .ok (.slice a5 (s.2.length + 1) c5) w4 ∧
        w4.cell? ⟨g, t.length * 2 + 1, none⟩ = some (.slice a4 s.2.length c4) ∧ w4.frozen? ⟨g, t.length * 2 + 1, none⟩ = false ∧ Below base w w4 ∧
        OwnApt (w4.setCell ⟨g, t.length * 2 + 1, none⟩ (.slice a5 (s.2.length + 1) c5)) base v (t ++ [(s.1, s.2 ++ [c])]) := by
  obtain ⟨i1, hi1, hy0, hy1, hy2⟩ := info_parts infoArc
  obtain ⟨vs, q1, q2, q3, q4⟩ := h
  have hlen : vs.length = t.length + 1 := by rw [q2]; simp
  have hq : t.length < vs.length := by omega
  have hqs : el (t ++ [s]) t.length = s := el_last t s
  have h3 := (q3 t.length (by simp)).2
  rw [hqs] at h3
  obtain ⟨a4, c4, hva⟩ := own_sl h3
  rcases q1.2 with ⟨_, h0⟩ | ⟨g, cap, cur, hv, hbg, hg, hnc, hcm, hcs, htake⟩
  · omega
  have hgl : g < w.heap.size := Blk.lt (t := 45) hg
  have hvb : v.ownBlock = some g := by rw [hv]; rfl
  have hcell : w.cell? ⟨g, t.length * 2 + 1, none⟩ = some (el vs t.length).2 := by
    have h9 := q1.cells hvb (t.length * 2 + 1) (el vs t.length).2 (by rw [flat_at encS_len vs t.length hq 1 (by omega)]; rfl)
    rw [Addr.add_lit, Nat.zero_add] at h9
    exact h9
  generalize hW : w.alloc (.cells #[.int .i64 c.1, .int .i64 c.2.1, .int .i64 c.2.2.1, .int .i64 c.2.2.2] 51) = W
  have hB : Below w.heap.size w W := by rw [← hW]; exact (Below.refl _ _).alloc (Nat.le_refl _) _
  have hws : W.heap.size = w.heap.size + 1 := by rw [← hW]; simp
  have hrow : Row 4 encA W (.slice (some ⟨w.heap.size, 0, none⟩) 1 1) [c] := by rw [← hW]; exact oneRow (enc := encA) w c rfl 51
  have h3W := ownBelow h3 hB
  obtain ⟨v4, w4, r4, ho4, hg4, hn4⟩ := run_append_spot (P := Try.prog) (w := W) encA_len (by decide) encA_one 43 43 base 51 i1 _ 32 Try.underlying43 hi1 hy0 hy1 hy2 rfl _ s.2.length (s.2.flatMap encA) h3W _ [c] hrow (by simp; unfold maxLen; omega) (by simpa using hl) (by omega)
  have hb4 : Below base w w4 := (hB.mono hbase).trans ((Below.refl _ _).grown hg4 (by omega) (fun k hk => (h3.lt k hk).1))
  have hne : (el vs t.length).2.ownBlock ≠ some g := by
    rcases own_apart h3 q1 (by decide) with e | e
    · rw [e]; simp
    · rw [← hvb]; exact e
  have hblk : w4.heap[g]? = w.heap[g]? := (hg4.block g (by omega) (Ne.symm hne)).trans (hB.block g hgl)
  have hcell4 : w4.cell? ⟨g, t.length * 2 + 1, none⟩ = some (el vs t.length).2 := (World.cell?_of_block hblk).trans hcell
  have hfz4 : w4.frozen? ⟨g, t.length * 2 + 1, none⟩ = false := (World.frozen?_of_block hblk).trans (Blk.fz (t := 45) hg _)
  obtain ⟨a5, c5, hv5⟩ := own_sl ho4
  have q1' : w4.ownsRow base 45 2 v vs.length (vs.flatMap encS) := (ownBelow q1 hB).kept hg4 (by rw [hvb]; exact .inr (Ne.symm hne))
  refine ⟨g, cap, a4, c4, by rw [hv, hlen], hbg, hgl, by rw [hcell, hva], a5, c5, w4, ?_, by rw [hcell4, hva], hfz4, hb4, ?_⟩
  · rw [← hva, r4, hv5]; simp
  · have hvx : v4 = .slice a5 (s.2.length + 1) c5 := by rw [hv5]; simp
    rw [← hvx]
    have q1s := q1'
    rw [hv] at q1s
    have hs := (q1s.stored (t.length * 2 + 1) v4).1
    rw [flat_set hq] at hs
    refine ⟨vs.set t.length ((el vs t.length).1, v4), by rw [List.length_set, hv]; exact hs, by simp [q2], ?_, ?_⟩
    · intro j hj
      have hj' : j < t.length ∨ j = t.length := by simp at hj; omega
      rw [Pl.el_set (by omega)]
      rcases hj' with hj' | rfl
      · rw [if_neg (by omega), el_left hj']
        have h5 := q3 j (by simp; omega)
        rw [el_left hj'] at h5
        have h6 := (ownBelow h5.2 hB).kept hg4 (q4 j t.length (by simp; omega) (by simp) (by omega))
        refine ⟨h5.1, ownsRow_setCell_other (a := ⟨g, t.length * 2 + 1, none⟩) h6 ?_ _⟩
        rcases own_apart h6 q1' (by decide) with e | e
        · rw [e]; simp
        · rw [← hvb]; exact e
      · rw [if_pos rfl, el_last]
        have h5 := (q3 t.length (by simp)).1
        rw [hqs] at h5
        refine ⟨h5, ?_⟩
        have h6 : w4.ownsRow base 51 4 v4 (s.2 ++ [c]).length ((s.2 ++ [c]).flatMap encA) := by rw [List.length_append, List.flatMap_append]; exact ho4
        refine ownsRow_setCell_other (a := ⟨g, t.length * 2 + 1, none⟩) h6 ?_ _
        rcases own_apart h6 q1' (by decide) with e | e
        · rw [e]; simp
        · rw [← hvb]; exact e
    · intro i j hi hj hij
      have hi' : i < t.length ∨ i = t.length := by simp at hi; omega
      have hj' : j < t.length ∨ j = t.length := by simp at hj; omega
      rw [Pl.el_set (j := i) (by omega), Pl.el_set (j := j) (by omega)]
      rcases hi' with hi' | rfl
      · rw [if_neg (by omega)]
        rcases hj' with hj' | rfl
        · rw [if_neg (by omega)]; exact q4 i j (by simp; omega) (by simp; omega) hij
        · rw [if_pos rfl]
          exact (q4 i t.length (by simp; omega) (by simp) hij).near (ownBelow (q3 i (by simp; omega)).2 hB) hn4
      · rw [if_pos rfl]
        rcases hj' with hj' | rfl
        · rw [if_neg (by omega)]
          exact ((q4 j t.length (by simp; omega) (by simp) (by omega)).near (ownBelow (q3 j (by simp; omega)).2 hB) hn4).symm
        · exact absurd rfl hij
end Go.Proofs.Ythcfkiinjcbajab.Wt
namespace Go.Proofs.Ythcfkiinjcbajab.Wt
open Go.ChangeShapes Go.WideShapes Go.ChangeAt Go.RowKit
open Go.Proofs.Ythcfkiinjcbajab.Pl
set_option linter.unusedVariables false
set_option linter.unusedSimpArgs false
/-- Blocks that hold no states and no arcs are as they were, but for block M. -/
def Kept (M : Option Nat) (w w' : World) : Prop := w.heap.size ≤ w'.heap.size ∧ ∀ (k : Nat) (o : Obj), w.heap[k]? = some o → some k ≠ M → (∀ (cs : Array Value) (T : TypeId) (fr : Nat × Nat), o = .cells cs T fr → T ≠ 45 ∧ T ≠ 51) → w'.heap[k]? = some o
theorem Kept.refl (M : Option Nat) (w : World) : Kept M w w := ⟨Nat.le_refl _, fun _ _ h _ _ => h⟩
theorem Kept.trans {M : Option Nat} {w w' w2 : World} (h : Kept M w w') (h2 : Kept M w' w2) : Kept M w w2 := ⟨Nat.le_trans h.1 h2.1, fun k o e a b => h2.2 k o (h.2 k o e a b) a b⟩
theorem Kept.any {w w' : World} (h : Kept none w w') (M : Option Nat) : Kept M w w' := ⟨h.1, fun k o e _ b => h.2 k o e (by simp) b⟩
theorem Kept.of {w w' : World} (h : Below w.heap.size w w') : Kept none w w' := ⟨h.size, fun k o e _ _ => (h.block k (lt_of_block e)).trans e⟩
theorem Kept.setM (w : World) (M o : Nat) (v : Value) : Kept (some M) w (w.setCell ⟨M, o, none⟩ v) := ⟨by simp [World.setCell], fun k ob e a _ => (Below.heap_setCell w ⟨M, o, none⟩ v k (fun h => a (by rw [h]))).trans e⟩
theorem Kept.setT {w : World} {g o : Nat} {v : Value} {cs : Array Value} {fr : Nat × Nat} (hg : w.heap[g]? = some (.cells cs 45 fr)) : Kept none w (w.setCell ⟨g, o, none⟩ v) := ⟨by simp [World.setCell], fun k ob e _ b => by
  by_cases hk : k = g
  · subst hk
    rw [hg] at e
    exact absurd rfl (b _ _ _ (Option.some.inj e).symm).1
  · exact (Below.heap_setCell w ⟨g, o, none⟩ v k hk).trans e⟩
theorem Kept.grown {w w' : World} {B s n : Nat} {T : TypeId} {v : Value} {xs : List Value} (ho : w.ownsRow B T s v n xs) (hT : T = 45 ∨ T = 51) (hg : w.grownBy w' v.ownBlock) : Kept none w w' := ⟨hg.size, fun k ob e _ b => by
  refine (hg.block k (lt_of_block e) (fun h => ?_)).trans e
  rcases ho.2 with ⟨hv, _⟩ | ⟨g, cap, cur, hv, _, hgb, _⟩
  · rw [hv] at h; simp [Value.ownBlock] at h
  · rw [hv] at h
    simp only [Value.ownBlock, Option.some.injEq] at h
    subst h
    rw [hgb] at e
    have := b _ _ _ (Option.some.inj e).symm
    rcases hT with h | h
    · exact this.1 h
    · exact this.2 h⟩
theorem Kept.blk {M : Option Nat} {w w' : World} {b : Nat} {cs : Array Value} {t : TypeId} (h : Kept M w w') (hb : Blk w b cs t) (hM : some b ≠ M) (h1 : t ≠ 45) (h2 : t ≠ 51) : Blk w' b cs t :=
  h.2 b _ hb hM (fun cs' T fr e => by injection e with _ e2 _; subst e2; exact ⟨h1, h2⟩)
theorem flat_set0 {vs : List (Int × Value)} {q : Nat} (hq : q < vs.length) (f : Int) : (vs.flatMap encS).set (q * 2) (.int .i64 f) = (vs.set q (f, (el vs q).2)).flatMap encS := by
  have hl : (vs.flatMap encS).length = vs.length * 2 := flat_length encS_len vs
  apply List.ext_getElem?
  intro t
  by_cases ht : t < vs.length * 2
  · have he : t / 2 * 2 + t % 2 = t := by omega
    have h1 := flat_at encS_len vs (t / 2) (by omega) (t % 2) (by omega)
    have h2 := flat_at encS_len (vs.set q (f, (el vs q).2)) (t / 2) (by simp; omega) (t % 2) (by omega)
    rw [he] at h1 h2
    rw [h2, List.getElem?_set, Pl.el_set (by omega)]
    by_cases hq2 : q = t / 2
    · rw [if_pos hq2]
      have h01 : t = q * 2 ∨ t = q * 2 + 1 := by omega
      rcases h01 with h | h
      · have e0 : t % 2 = 0 := by omega
        rw [if_pos h.symm, if_pos (by omega), e0]; rfl
      · have e0 : t % 2 = 1 := by omega
        rw [if_neg (by omega), h1, ← hq2, e0]; rfl
    · rw [if_neg hq2, if_neg (by omega), h1]
  · rw [List.getElem?_eq_none (by rw [List.length_set, hl]; omega), List.getElem?_eq_none (by rw [flat_length encS_len, List.length_set]; omega)]
/-- append(l, State{Final: f, Arcs: va}), the arcs newer than all that is there. -/
theorem OwnApt.pushA {W w5 : World} {base : Nat} {vo va : Value} {l : List St} {ar : List Ar} (h : OwnApt W base vo l) (hb : Below W.heap.size W w5) (hva : w5.ownsRow W.heap.size 51 4 va ar.length (ar.flatMap encA)) (f : Int) (hl : (l.length + 1) * 32 ≤ 140737488355328) (hbase : base ≤ W.heap.size) :
    ∃ a3 c3 w6, (Builtin.append_ #[26, 26] 26 #[vo, .slice (some ⟨w5.heap.size, 0, none⟩) 1 1]).run Try.prog (w5.alloc (.cells #[.int .i64 f, va] 45)) = .ok (.slice a3 (l.length + 1) c3) w6 ∧ OwnApt w6 base (.slice a3 (l.length + 1) c3) (l ++ [(f, ar)]) ∧ Below base w5 w6 ∧ Kept none w5 w6 ∧ (w5.alloc (.cells #[.int .i64 f, va] 45)).grownBy w6 vo.ownBlock := by
  obtain ⟨i1, hi1, hy0, hy1, hy2⟩ := info_parts infoState
  obtain ⟨vs, q1, q2, q3, q4⟩ := h
  have hs5 := hb.size
  generalize hW : w5.alloc (.cells #[.int .i64 f, va] 45) = W2
  have hB5 : Below w5.heap.size w5 W2 := by rw [← hW]; exact (Below.refl _ _).alloc (Nat.le_refl _) _
  have hB : Below W.heap.size W W2 := hb.trans (hB5.mono hs5)
  have e0 : W2.heap[w5.heap.size]? = some (.cells #[.int .i64 f, va] 45 (0, 0)) := by rw [← hW]; exact Blk.made w5 _ _
  have hws : W2.heap.size = w5.heap.size + 1 := by rw [← hW]; simp
  have hvo := ownBelow q1 hB
  have hvaW := ownBelow hva hB5
  obtain ⟨v3, w3, hr, h1, h2, _⟩ := run_append_own (P := Try.prog) W2 base 26 26 45 i1 _ 2 32 Try.underlying26 hi1 hy0 hy1 hy2 rfl (by omega) vo vs.length (vs.flatMap encS) hvo ⟨w5.heap.size, 0, none⟩ 1 1 [.int .i64 f, va] rfl (World.news_of_block (cs := #[.int .i64 f, va]) e0) (by
    intro u hu
    simp at hu
    rcases hu with rfl | rfl
    · rfl
    · exact own_one hva) (by rw [q2]; unfold maxLen; omega) (by rw [q2]; exact hl) (by omega)
  have hb3 : Below base w5 w3 := (hB5.mono (by omega)).trans ((Below.refl _ _).grown h2 (by omega) (fun k hk => (q1.lt k hk).1))
  have hk3 : Kept none w5 w3 := (Kept.of hB5).trans (Kept.grown hvo (.inl rfl) h2)
  obtain ⟨a3, c3, hv3⟩ := own_sl h1
  rw [q2] at hv3
  subst hv3
  refine ⟨a3, c3, w3, hr, ⟨vs ++ [(f, va)], by simpa [encS] using h1, by simp [q2], ?_, ?_⟩, hb3, hk3, h2⟩
  · intro j hj
    have hj' : j < l.length ∨ j = l.length := by simp at hj; omega
    rcases hj' with hj' | rfl
    · rw [el_left (by omega), el_left hj']
      have := ownBelow (q3 j hj').2 hB
      exact ⟨(q3 j hj').1, this.kept h2 (own_apart this hvo (by decide))⟩
    · rw [el_last, ← q2, el_last]
      exact ⟨rfl, ownMono (hvaW.kept h2 (own_apart hvaW hvo (by decide))) hbase⟩
  · have hnew : ∀ i, i < l.length → Apt (el vs i).2 va := fun i hi => by
      rcases ha : (el vs i).2.ownBlock with _ | k
      · exact .inl ha
      · refine .inr ?_
        rw [ha]
        intro e
        have h8 := ((q3 i hi).2.lt k ha).2
        have h9 := (hva.lt k e.symm).1
        omega
    intro i j hi hj hij
    have hi' : i < l.length ∨ i = l.length := by simp at hi; omega
    have hj' : j < l.length ∨ j = l.length := by simp at hj; omega
    rcases hi' with hi' | rfl
    · rcases hj' with hj' | rfl
      · rw [el_left (by omega), el_left (by omega)]; exact q4 i j hi' hj' hij
      · rw [el_left (by omega), ← q2, el_last]; exact hnew i hi'
    · rcases hj' with hj' | rfl
      · rw [el_left (l := vs) (j := j) (by omega), ← q2, el_last]; exact (hnew j hj').symm
      · exact absurd rfl hij
/-- l[q].Arcs = append(l[q].Arcs, c), at any place. -/
theorem OwnApt.arcAt {w : World} {base : Nat} {v : Value} {l : List St} (h : OwnApt w base v l) (hbase : base ≤ w.heap.size) (q : Nat) (hq : q < l.length) (c : Ar) (hl : ((el l q).2.length + 1) * 32 ≤ 140737488355328) :
    ∃ g cap a4 c4, v = .slice (some ⟨g, 0, none⟩) l.length cap ∧ base ≤ g ∧ g < w.heap.size ∧ w.cell? ⟨g, q * 2 + 1, none⟩ = some (.slice a4 (el l q).2.length c4) ∧
      ∃ a5 c5 w4, (Builtin.append_ #[43, 43] 43 #[.slice a4 (el l q).2.length c4, .slice (some ⟨w.heap.size, 0, none⟩) 1 1]).run Try.prog (w.alloc (.cells #[.int .i64 c.1, .int .i64 c.2.1, .int .i64 c.2.2.1, .int .i64 c.2.2.2] 51)) = .ok (.slice a5 ((el l q).2.length + 1) c5) w4 ∧
        w4.cell? ⟨g, q * 2 + 1, none⟩ = some (.slice a4 (el l q).2.length c4) ∧ w4.frozen? ⟨g, q * 2 + 1, none⟩ = false ∧ Below base w w4 ∧
        OwnApt (w4.setCell ⟨g, q * 2 + 1, none⟩ (.slice a5 ((el l q).2.length + 1) c5)) base v (l.set q ((el l q).1, (el l q).2 ++ [c])) ∧ Kept none w w4 ∧ Kept none w4 (w4.setCell ⟨g, q * 2 + 1, none⟩ (.slice a5 ((el l q).2.length + 1) c5)) ∧ (w.alloc (.cells #[.int .i64 c.1, .int .i64 c.2.1, .int .i64 c.2.2.1, .int .i64 c.2.2.2] 51)).grownBy w4 (Value.slice a4 (el l q).2.length c4).ownBlock := by
  obtain ⟨i1, hi1, hy0, hy1, hy2⟩ := info_parts infoArc
  obtain ⟨vs, q1, q2, q3, q4⟩ := h
  have hqv : q < vs.length := by omega
  have h3 := (q3 q hq).2
  obtain ⟨a4, c4, hva⟩ := own_sl h3
  rcases q1.2 with ⟨_, h0⟩ | ⟨g, cap, cur, hv, hbg, hg, hnc, hcm, hcs, htake⟩
  · omega
  have hgl : g < w.heap.size := Blk.lt (t := 45) hg
  have hvb : v.ownBlock = some g := by rw [hv]; rfl
  have hcell : w.cell? ⟨g, q * 2 + 1, none⟩ = some (el vs q).2 := by
    have h9 := q1.cells hvb (q * 2 + 1) (el vs q).2 (by rw [flat_at encS_len vs q hqv 1 (by omega)]; rfl)
    rw [Addr.add_lit, Nat.zero_add] at h9
    exact h9
  generalize hW : w.alloc (.cells #[.int .i64 c.1, .int .i64 c.2.1, .int .i64 c.2.2.1, .int .i64 c.2.2.2] 51) = W
  have hB : Below w.heap.size w W := by rw [← hW]; exact (Below.refl _ _).alloc (Nat.le_refl _) _
  have hws : W.heap.size = w.heap.size + 1 := by rw [← hW]; simp
  have hrow : Row 4 encA W (.slice (some ⟨w.heap.size, 0, none⟩) 1 1) [c] := by rw [← hW]; exact oneRow (enc := encA) w c rfl 51
  have h3W := ownBelow h3 hB
  obtain ⟨v4, w4, r4, ho4, hg4, hn4⟩ := run_append_spot (P := Try.prog) (w := W) encA_len (by decide) encA_one 43 43 base 51 i1 _ 32 Try.underlying43 hi1 hy0 hy1 hy2 rfl _ (el l q).2.length ((el l q).2.flatMap encA) h3W _ [c] hrow (by simp; unfold maxLen; omega) (by simpa using hl) (by omega)
  have hb4 : Below base w w4 := (hB.mono hbase).trans ((Below.refl _ _).grown hg4 (by omega) (fun k hk => (h3.lt k hk).1))
  have hk4 : Kept none w w4 := (Kept.of hB).trans (Kept.grown h3W (.inr rfl) hg4)
  have hne : (el vs q).2.ownBlock ≠ some g := by
    rcases own_apart h3 q1 (by decide) with e | e
    · rw [e]; simp
    · rw [← hvb]; exact e
  have hblk : w4.heap[g]? = w.heap[g]? := (hg4.block g (by omega) (Ne.symm hne)).trans (hB.block g hgl)
  have hcell4 : w4.cell? ⟨g, q * 2 + 1, none⟩ = some (el vs q).2 := (World.cell?_of_block hblk).trans hcell
  have hfz4 : w4.frozen? ⟨g, q * 2 + 1, none⟩ = false := (World.frozen?_of_block hblk).trans (Blk.fz (t := 45) hg _)
  obtain ⟨a5, c5, hv5⟩ := own_sl ho4
  have q1' : w4.ownsRow base 45 2 v vs.length (vs.flatMap encS) := (ownBelow q1 hB).kept hg4 (by rw [hvb]; exact .inr (Ne.symm hne))
  refine ⟨g, cap, a4, c4, by rw [hv, q2], hbg, hgl, by rw [hcell, hva], a5, c5, w4, ?_, by rw [hcell4, hva], hfz4, hb4, ?_, hk4, Kept.setT (hblk.trans hg), by rw [← hva]; exact hg4⟩
  · rw [← hva, r4, hv5]; simp
  · have hvx : v4 = .slice a5 ((el l q).2.length + 1) c5 := by rw [hv5]; simp
    rw [← hvx]
    have q1s := q1'
    rw [hv] at q1s
    have hs := (q1s.stored (q * 2 + 1) v4).1
    rw [flat_set hqv] at hs
    refine ⟨vs.set q ((el vs q).1, v4), by rw [List.length_set, hv]; exact hs, by simp [q2], ?_, ?_⟩
    · intro j hj
      have hj' : j < l.length := by simpa using hj
      rw [Pl.el_set (by omega), Pl.el_set hj']
      by_cases e : q = j
      · subst e
        rw [if_pos rfl, if_pos rfl]
        refine ⟨(q3 q hq).1, ?_⟩
        have h6 : w4.ownsRow base 51 4 v4 ((el l q).2 ++ [c]).length (((el l q).2 ++ [c]).flatMap encA) := by rw [List.length_append, List.flatMap_append]; exact ho4
        refine ownsRow_setCell_other (a := ⟨g, q * 2 + 1, none⟩) h6 ?_ _
        rcases own_apart h6 q1' (by decide) with e | e
        · rw [e]; simp
        · rw [← hvb]; exact e
      · rw [if_neg e, if_neg e]
        have h5 := q3 j hj'
        have h6 := (ownBelow h5.2 hB).kept hg4 (q4 j q hj' hq (Ne.symm e))
        refine ⟨h5.1, ownsRow_setCell_other (a := ⟨g, q * 2 + 1, none⟩) h6 ?_ _⟩
        rcases own_apart h6 q1' (by decide) with e | e
        · rw [e]; simp
        · rw [← hvb]; exact e
    · intro i j hi hj hij
      have hi' : i < l.length := by simpa using hi
      have hj' : j < l.length := by simpa using hj
      rw [Pl.el_set (j := i) (by omega), Pl.el_set (j := j) (by omega)]
      by_cases ei : q = i
      · rw [if_pos ei, if_neg (by omega)]
        subst ei
        exact ((q4 j q hj' hq (Ne.symm hij)).near (ownBelow (q3 j hj').2 hB) hn4).symm
      · rw [if_neg ei]
        by_cases ej : q = j
        · rw [if_pos ej]
          subst ej
          exact (q4 i q hi' hq hij).near (ownBelow (q3 i hi').2 hB) hn4
        · rw [if_neg ej]; exact q4 i j hi' hj' hij
theorem OwnApt.lt {w : World} {base : Nat} {v : Value} {l : List St} (h : OwnApt w base v l) : ∀ k, v.ownBlock = some k → base ≤ k ∧ k < w.heap.size := by
  obtain ⟨vs, q1, _⟩ := h
  exact q1.lt
theorem OwnApt.rowLt {w : World} {base g n cap q : Nat} {l : List St} {va : Value} (h : OwnApt w base (.slice (some ⟨g, 0, none⟩) n cap) l) (hq : q < l.length) (hc : w.cell? ⟨g, q * 2 + 1, none⟩ = some va) : ∀ k, va.ownBlock = some k → base ≤ k ∧ k < w.heap.size := by
  obtain ⟨vs, q1, q2, q3, q4⟩ := h
  have h9 := q1.cells (g := g) rfl (q * 2 + 1) (el vs q).2 (by rw [flat_at encS_len vs q (by omega) 1 (by omega)]; rfl)
  rw [Addr.add_lit, Nat.zero_add, hc] at h9
  rw [Option.some.inj h9]
  exact (q3 q hq).2.lt
/-- l[q].Final = f. -/
theorem OwnApt.finAt {w : World} {base : Nat} {v : Value} {l : List St} (h : OwnApt w base v l) (q : Nat) (hq : q < l.length) (f : Int) :
    ∃ g cap, v = .slice (some ⟨g, 0, none⟩) l.length cap ∧ base ≤ g ∧ g < w.heap.size ∧ w.cell? ⟨g, q * 2, none⟩ = some (.int .i64 (el l q).1) ∧ w.frozen? ⟨g, q * 2, none⟩ = false ∧
        OwnApt (w.setCell ⟨g, q * 2, none⟩ (.int .i64 f)) base v (l.set q (f, (el l q).2)) ∧ Kept none w (w.setCell ⟨g, q * 2, none⟩ (.int .i64 f)) := by
  obtain ⟨vs, q1, q2, q3, q4⟩ := h
  have hqv : q < vs.length := by omega
  rcases q1.2 with ⟨_, h0⟩ | ⟨g, cap, cur, hv, hbg, hg, hnc, hcm, hcs, htake⟩
  · omega
  have hgl : g < w.heap.size := Blk.lt (t := 45) hg
  have hvb : v.ownBlock = some g := by rw [hv]; rfl
  have hcell : w.cell? ⟨g, q * 2, none⟩ = some (.int .i64 (el vs q).1) := by
    have h9 := q1.cells hvb (q * 2) (.int .i64 (el vs q).1) (by have := flat_at encS_len vs q hqv 0 (by omega); rw [Nat.add_zero] at this; rw [this]; rfl)
    rw [Addr.add_lit, Nat.zero_add] at h9
    exact h9
  refine ⟨g, cap, by rw [hv, q2], hbg, hgl, by rw [hcell, (q3 q hq).1], Blk.fz (t := 45) hg _, ?_, Kept.setT hg⟩
  have q1s := q1
  rw [hv] at q1s
  have hs := (q1s.stored (q * 2) (.int .i64 f)).1
  rw [flat_set0 hqv] at hs
  refine ⟨vs.set q (f, (el vs q).2), by rw [List.length_set, hv]; exact hs, by simp [q2], ?_, ?_⟩
  · intro j hj
    have hj' : j < l.length := by simpa using hj
    have h6 : (w.setCell ⟨g, q * 2, none⟩ (.int .i64 f)).ownsRow base 51 4 (el vs j).2 (el l j).2.length ((el l j).2.flatMap encA) := by
      refine ownsRow_setCell_other (a := ⟨g, q * 2, none⟩) (q3 j hj').2 ?_ _
      rcases own_apart (q3 j hj').2 q1 (by decide) with e | e
      · rw [e]; simp
      · rw [← hvb]; exact e
    rw [Pl.el_set (by omega), Pl.el_set hj']
    by_cases e : q = j
    · subst e
      rw [if_pos rfl, if_pos rfl]
      exact ⟨rfl, h6⟩
    · rw [if_neg e, if_neg e]
      exact ⟨(q3 j hj').1, h6⟩
  · intro i j hi hj hij
    have hi' : i < l.length := by simpa using hi
    have hj' : j < l.length := by simpa using hj
    have e1 : ∀ k, k < l.length → (el (vs.set q (f, (el vs q).2)) k).2 = (el vs k).2 := fun k hk => by
      rw [Pl.el_set (by omega)]
      split
      · rename_i e; rw [e]
      · rfl
    rw [e1 i hi', e1 j hj']
    exact q4 i j hi' hj' hij
/-- A machine being built: a block of its own, its rows apart. -/
def Bui (w : World) (t : TypeId) (base b : Nat) (z : Int) (l : List St) : Prop := ∃ v, Blk w b #[.int .i64 z, v] t ∧ OwnApt w base v l
theorem Bui.later {w w' : World} {t : TypeId} {base b : Nat} {z : Int} {l : List St} (h : Bui w t base b z l) (hb : Below w.heap.size w w') : Bui w' t base b z l := by
  obtain ⟨v, h1, h2⟩ := h
  exact ⟨v, h1.below hb h1.lt, h2.later hb⟩
end Go.Proofs.Ythcfkiinjcbajab.Wt
