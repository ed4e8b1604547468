/- States of the call's own whose rows of arcs lie apart: one state more, one arc more at the last one. -/
import Derived.Test.YtibafdehgmalgaaKs
import Derived.Test.YtibafdehgmalgaaJ13i
namespace Go.Proofs.Ytibafdehgmalgaa.Wt
open Go.ChangeShapes Go.WideShapes Go.ChangeAt Go.RowKit
open Go.Proofs.Ytibafdehgmalgaa.Pl
set_option linter.unusedVariables false
set_option linter.unusedSimpArgs false
def Apt (a b : Value) : Prop := a.ownBlock = none ∨ a.ownBlock ≠ b.ownBlock
theorem Apt.symm {a b : Value} (h : Apt a b) : Apt b a := by
  rcases h with h | h
  · unfold Apt; rw [h]; rcases b.ownBlock with _ | _ <;> simp
  · exact .inr (Ne.symm h)
theorem Apt.near {w : World} {a b b' : Value} {base : Nat} {e : TypeId} {s n : Nat} {xs : List Value} (h : Apt a b) (ho : w.ownsRow base e s a n xs) (hn : Near w b.ownBlock b') : Apt a b' := by
  rcases hn with e | ⟨c, e, hc⟩
  · unfold Apt at *; rw [e]; exact h
  · rcases ha : a.ownBlock with _ | k
    · exact .inl ha
    · refine .inr ?_
      rw [ha, e]
      have := (ho.lt k ha).2
      intro e2; simp at e2; omega
def OwnApt (w : World) (base : Nat) (v : Value) (l : List St) : Prop :=
  ∃ vs : List (Int × Value), w.ownsRow base 44 2 v vs.length (vs.flatMap encS) ∧ vs.length = l.length ∧ (∀ j, j < l.length → (el vs j).1 = (el l j).1 ∧ w.ownsRow base 46 4 (el vs j).2 (el l j).2.length ((el l j).2.flatMap encA)) ∧ ∀ i j, i < l.length → j < l.length → i ≠ j → Apt (el vs i).2 (el vs j).2
theorem OwnApt.own {w : World} {base : Nat} {v : Value} {l : List St} (h : OwnApt w base v l) : OwnSts w base v l := by
  obtain ⟨vs, h1, h2, h3, _⟩ := h
  exact ⟨vs, h1, h2, h3⟩
theorem OwnApt.nil (w : World) (base : Nat) : OwnApt w base (.slice none 0 0) [] := ⟨[], World.ownsRow_nil _ _ _ _, rfl, by simp, by simp⟩
theorem OwnApt.later {w w' : World} {base : Nat} {v : Value} {l : List St} (h : OwnApt w base v l) (hb : Below w.heap.size w w') : OwnApt w' base v l := by
  obtain ⟨vs, h1, h2, h3, h4⟩ := h
  exact ⟨vs, ownBelow h1 hb, h2, fun j hj => ⟨(h3 j hj).1, ownBelow (h3 j hj).2 hb⟩, h4⟩
theorem OwnApt.setCell {w : World} {base : Nat} {v : Value} {l : List St} (h : OwnApt w base v l) {a : Addr} (ha : a.block < base) (u : Value) : OwnApt (w.setCell a u) base v l := by
  obtain ⟨vs, h1, h2, h3, h4⟩ := h
  exact ⟨vs, ownsRow_setCell_below h1 ha u, h2, fun j hj => ⟨(h3 j hj).1, ownsRow_setCell_below (h3 j hj).2 ha u⟩, h4⟩
theorem OwnApt.sl {w : World} {base : Nat} {v : Value} {l : List St} (h : OwnApt w base v l) : ∃ a c, v = .slice a l.length c := by
  obtain ⟨vs, h1, h2, _⟩ := h
  obtain ⟨a, c, hv⟩ := own_sl h1
  exact ⟨a, c, by rw [hv, h2]⟩
/-- append(l, State{Final: f}). -/
theorem OwnApt.push {w1 : World} {base : Nat} {vo : Value} {l : List St} (hown : OwnApt w1 base vo l) (f : Int) (hl : (l.length + 1) * 32 ≤ 140737488355328) (hbase : base ≤ w1.heap.size) :
    ∃ a3 c3 w3, (Builtin.append_ #[22, 22] 22 #[vo, .slice (some ⟨w1.heap.size, 0, none⟩) 1 1]).run Try.prog (w1.alloc (.cells #[.int .i64 f, .slice none 0 0] 44)) = .ok (.slice a3 (l.length + 1) c3) w3 ∧ OwnApt w3 base (.slice a3 (l.length + 1) c3) (l ++ [(f, [])]) ∧ Below base w1 w3 := by
  obtain ⟨i1, hi1, hy0, hy1, hy2⟩ := info_parts infoState
  obtain ⟨vs, q1, q2, q3, q4⟩ := hown
  generalize hW : w1.alloc (.cells #[.int .i64 f, .slice none 0 0] 44) = W
  have hB : Below w1.heap.size w1 W := by rw [← hW]; exact (Below.refl _ _).alloc (Nat.le_refl _) _
  have e0 : W.heap[w1.heap.size]? = some (.cells #[.int .i64 f, .slice none 0 0] 44 (0, 0)) := by rw [← hW]; exact Blk.made w1 _ _
  have hws : W.heap.size = w1.heap.size + 1 := by rw [← hW]; simp
  have hvo := ownBelow q1 hB
  obtain ⟨v3, w3, hr, h1, h2, _⟩ := run_append_own (P := Try.prog) W base 22 22 44 i1 _ 2 32 Try.underlying22 hi1 hy0 hy1 hy2 rfl (by omega) vo vs.length (vs.flatMap encS) hvo ⟨w1.heap.size, 0, none⟩ 1 1 [.int .i64 f, .slice none 0 0] rfl (World.news_of_block (cs := #[.int .i64 f, .slice none 0 0]) e0) (by
    intro u hu
    simp at hu
    rcases hu with rfl | rfl <;> rfl) (by rw [q2]; unfold maxLen; omega) (by rw [q2]; exact hl) (by omega)
  have hb3 : Below base w1 w3 := (hB.mono hbase).trans ((Below.refl _ _).grown h2 (by omega) (fun k hk => (q1.lt k hk).1))
  obtain ⟨a3, c3, hv3⟩ := own_sl h1
  rw [q2] at hv3
  subst hv3
  refine ⟨a3, c3, w3, hr, ⟨vs ++ [(f, .slice none 0 0)], by simpa [encS] using h1, by simp [q2], ?_, ?_⟩, hb3⟩
  · intro j hj
    have hj' : j < l.length ∨ j = l.length := by simp at hj; omega
    rcases hj' with hj' | rfl
    · rw [el_left (by omega), el_left hj']
      have := ownBelow (q3 j hj').2 hB
      exact ⟨(q3 j hj').1, this.kept h2 (own_apart this hvo (by decide))⟩
    · rw [el_last, ← q2, el_last]
      exact ⟨rfl, World.ownsRow_nil _ _ _ _⟩
  · intro i j hi hj hij
    have hi' : i < l.length ∨ i = l.length := by simp at hi; omega
    have hj' : j < l.length ∨ j = l.length := by simp at hj; omega
    rcases hi' with hi' | rfl
    · rcases hj' with hj' | rfl
      · rw [el_left (by omega), el_left (by omega)]; exact q4 i j hi' hj' hij
      · rw [← q2, el_last]; exact Apt.symm (.inl rfl)
    · rw [← q2, el_last]; exact .inl rfl
/-- The last state's arcs: l[last].Arcs = append(l[last].Arcs, c). -/
theorem OwnApt.arc {w : World} {base : Nat} {v : Value} {t : List St} {s : St} (h : OwnApt w base v (t ++ [s])) (hbase : base ≤ w.heap.size) (c : Ar) (hl : (s.2.length + 1) * 32 ≤ 140737488355328) :
    ∃ g cap a4 c4, v = .slice (some ⟨g, 0, none⟩) (t.length + 1) cap ∧ base ≤ g ∧ g < w.heap.size ∧ w.cell? ⟨g, t.length * 2 + 1, none⟩ = some (.slice a4 s.2.length c4) ∧
      ∃ a5 c5 w4, (Builtin.append_ #[42, 42] 42 #[.slice a4 s.2.length c4, .slice (some ⟨w.heap.size, 0, none⟩) 1 1]).run Try.prog (w.alloc (.cells #[.int .i64 c.1, .int .i64 c.2.1, .int .i64 c.2.2.1, .int .i64 c.2.2.2] 46)) = .ok (.slice a5 (s.2.length + 1) c5) w4 ∧
        w4.cell? ⟨g, t.length * 2 + 1, none⟩ = some (.slice a4 s.2.length c4) ∧ w4.frozen? ⟨g, t.length * 2 + 1, none⟩ = false ∧ Below base w w4 ∧
        OwnApt (w4.setCell ⟨g, t.length * 2 + 1, none⟩ (.slice a5 (s.2.length + 1) c5)) base v (t ++ [(s.1, s.2 ++ [c])]) := by
  obtain ⟨i1, hi1, hy0, hy1, hy2⟩ := info_parts infoArc
  obtain ⟨vs, q1, q2, q3, q4⟩ := h
  have hlen : vs.length = t.length + 1 := by rw [q2]; simp
  have hq : t.length < vs.length := by omega
  have hqs : el (t ++ [s]) t.length = s := el_last t s
  have h3 := (q3 t.length (by simp)).2
  rw [hqs] at h3
  obtain ⟨a4, c4, hva⟩ := own_sl h3
  rcases q1.2 with ⟨_, h0⟩ | ⟨g, cap, cur, hv, hbg, hg, hnc, hcm, hcs, htake⟩
  · omega
  have hgl : g < w.heap.size := Blk.lt (t := 44) hg
  have hvb : v.ownBlock = some g := by rw [hv]; rfl
  have hcell : w.cell? ⟨g, t.length * 2 + 1, none⟩ = some (el vs t.length).2 := by
    have h9 := q1.cells hvb (t.length * 2 + 1) (el vs t.length).2 (by rw [flat_at encS_len vs t.length hq 1 (by omega)]; rfl)
    rw [Addr.add_lit, Nat.zero_add] at h9
    exact h9
  generalize hW : w.alloc (.cells #[.int .i64 c.1, .int .i64 c.2.1, .int .i64 c.2.2.1, .int .i64 c.2.2.2] 46) = W
  have hB : Below w.heap.size w W := by rw [← hW]; exact (Below.refl _ _).alloc (Nat.le_refl _) _
  have hws : W.heap.size = w.heap.size + 1 := by rw [← hW]; simp
  have hrow : Row 4 encA W (.slice (some ⟨w.heap.size, 0, none⟩) 1 1) [c] := by rw [← hW]; exact oneRow (enc := encA) w c rfl 46
  have h3W := ownBelow h3 hB
  obtain ⟨v4, w4, r4, ho4, hg4, hn4⟩ := run_append_spot (P := Try.prog) (w := W) encA_len (by decide) encA_one 42 42 base 46 i1 _ 32 Try.underlying42 hi1 hy0 hy1 hy2 rfl _ s.2.length (s.2.flatMap encA) h3W _ [c] hrow (by simp; unfold maxLen; omega) (by simpa using hl) (by omega)
  have hb4 : Below base w w4 := (hB.mono hbase).trans ((Below.refl _ _).grown hg4 (by omega) (fun k hk => (h3.lt k hk).1))
  have hne : (el vs t.length).2.ownBlock ≠ some g := by
    rcases own_apart h3 q1 (by decide) with e | e
    · rw [e]; simp
    · rw [← hvb]; exact e
  have hblk : w4.heap[g]? = w.heap[g]? := (hg4.block g (by omega) (Ne.symm hne)).trans (hB.block g hgl)
  have hcell4 : w4.cell? ⟨g, t.length * 2 + 1, none⟩ = some (el vs t.length).2 := (World.cell?_of_block hblk).trans hcell
  have hfz4 : w4.frozen? ⟨g, t.length * 2 + 1, none⟩ = false := (World.frozen?_of_block hblk).trans (Blk.fz (t := 44) hg _)
  obtain ⟨a5, c5, hv5⟩ := own_sl ho4
  have q1' : w4.ownsRow base 44 2 v vs.length (vs.flatMap encS) := (ownBelow q1 hB).kept hg4 (by rw [hvb]; exact .inr (Ne.symm hne))
  refine ⟨g, cap, a4, c4, by rw [hv, hlen], hbg, hgl, by rw [hcell, hva], a5, c5, w4, ?_, by rw [hcell4, hva], hfz4, hb4, ?_⟩
  · rw [← hva, r4, hv5]; simp
  · have hvx : v4 = .slice a5 (s.2.length + 1) c5 := by rw [hv5]; simp
    rw [← hvx]
    have q1s := q1'
    rw [hv] at q1s
    have hs := (q1s.stored (t.length * 2 + 1) v4).1
    rw [flat_set hq] at hs
    refine ⟨vs.set t.length ((el vs t.length).1, v4), by rw [List.length_set, hv]; exact hs, by simp [q2], ?_, ?_⟩
    · intro j hj
      have hj' : j < t.length ∨ j = t.length := by simp at hj; omega
      rw [Pl.el_set (by omega)]
      rcases hj' with hj' | rfl
      · rw [if_neg (by omega), el_left hj']
        have h5 := q3 j (by simp; omega)
        rw [el_left hj'] at h5
        have h6 := (ownBelow h5.2 hB).kept hg4 (q4 j t.length (by simp; omega) (by simp) (by omega))
        refine ⟨h5.1, ownsRow_setCell_other (a := ⟨g, t.length * 2 + 1, none⟩) h6 ?_ _⟩
        rcases own_apart h6 q1' (by decide) with e | e
        · rw [e]; simp
        · rw [← hvb]; exact e
      · rw [if_pos rfl, el_last]
        have h5 := (q3 t.length (by simp)).1
        rw [hqs] at h5
        refine ⟨h5, ?_⟩
        have h6 : w4.ownsRow base 46 4 v4 (s.2 ++ [c]).length ((s.2 ++ [c]).flatMap encA) := by rw [List.length_append, List.flatMap_append]; exact ho4
        refine ownsRow_setCell_other (a := ⟨g, t.length * 2 + 1, none⟩) h6 ?_ _
        rcases own_apart h6 q1' (by decide) with e | e
        · rw [e]; simp
        · rw [← hvb]; exact e
    · intro i j hi hj hij
      have hi' : i < t.length ∨ i = t.length := by simp at hi; omega
      have hj' : j < t.length ∨ j = t.length := by simp at hj; omega
      rw [Pl.el_set (j := i) (by omega), Pl.el_set (j := j) (by omega)]
      rcases hi' with hi' | rfl
      · rw [if_neg (by omega)]
        rcases hj' with hj' | rfl
        · rw [if_neg (by omega)]; exact q4 i j (by simp; omega) (by simp; omega) hij
        · rw [if_pos rfl]
          exact (q4 i t.length (by simp; omega) (by simp) hij).near (ownBelow (q3 i (by simp; omega)).2 hB) hn4
      · rw [if_pos rfl]
        rcases hj' with hj' | rfl
        · rw [if_neg (by omega)]
          exact ((q4 j t.length (by simp; omega) (by simp) (by omega)).near (ownBelow (q3 j (by simp; omega)).2 hB) hn4).symm
        · exact absurd rfl hij
end Go.Proofs.Ytibafdehgmalgaa.Wt
