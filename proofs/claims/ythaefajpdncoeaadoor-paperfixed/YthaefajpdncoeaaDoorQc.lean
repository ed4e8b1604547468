/- The program's reader: what a start and a state add to the machine that is read. -/
import Derived.Test.YthaefajpdncoeaaDoorQa
import Derived.Test.YthaefajpdncoeaaDoorOy
import Derived.Test.YthaefajpdncoeaaDoorStr
namespace Go.Proofs.YthaefajpdncoeaaDoor.Wt
open Go.ChangeShapes Go.WideShapes Go.ChangeAt Go.RowKit
open Go.Proofs.YthaefajpdncoeaaDoor.Pl
set_option linter.unusedVariables false
set_option linter.unusedSimpArgs false
/-- Blocks that hold no states and no arcs are as they were, but for block M. -/
def Kept (M : Option Nat) (w w' : World) : Prop := w.heap.size ≤ w'.heap.size ∧ ∀ (k : Nat) (o : Obj), w.heap[k]? = some o → some k ≠ M → (∀ (cs : Array Value) (T : TypeId) (fr : Nat × Nat), o = .cells cs T fr → T ≠ 37 ∧ T ≠ 46) → w'.heap[k]? = some o
theorem Kept.refl (M : Option Nat) (w : World) : Kept M w w := ⟨Nat.le_refl _, fun _ _ h _ _ => h⟩
theorem Kept.trans {M : Option Nat} {w w' w2 : World} (h : Kept M w w') (h2 : Kept M w' w2) : Kept M w w2 := ⟨Nat.le_trans h.1 h2.1, fun k o e a b => h2.2 k o (h.2 k o e a b) a b⟩
theorem Kept.any {w w' : World} (h : Kept none w w') (M : Option Nat) : Kept M w w' := ⟨h.1, fun k o e _ b => h.2 k o e (by simp) b⟩
theorem Kept.of {w w' : World} (h : Below w.heap.size w w') : Kept none w w' := ⟨h.size, fun k o e _ _ => (h.block k (lt_of_block e)).trans e⟩
theorem Kept.setM (w : World) (M o : Nat) (v : Value) : Kept (some M) w (w.setCell ⟨M, o, none⟩ v) := ⟨by simp [World.setCell], fun k ob e a _ => (Below.heap_setCell w ⟨M, o, none⟩ v k (fun h => a (by rw [h]))).trans e⟩
theorem Kept.setT {w : World} {g o : Nat} {v : Value} {cs : Array Value} {fr : Nat × Nat} (hg : w.heap[g]? = some (.cells cs 37 fr)) : Kept none w (w.setCell ⟨g, o, none⟩ v) := ⟨by simp [World.setCell], fun k ob e _ b => by
  by_cases hk : k = g
  · subst hk
    rw [hg] at e
    exact absurd rfl (b _ _ _ (Option.some.inj e).symm).1
  · exact (Below.heap_setCell w ⟨g, o, none⟩ v k hk).trans e⟩
theorem Kept.grown {w w' : World} {B s n : Nat} {T : TypeId} {v : Value} {xs : List Value} (ho : w.ownsRow B T s v n xs) (hT : T = 37 ∨ T = 46) (hg : w.grownBy w' v.ownBlock) : Kept none w w' := ⟨hg.size, fun k ob e _ b => by
  refine (hg.block k (lt_of_block e) (fun h => ?_)).trans e
  rcases ho.2 with ⟨hv, _⟩ | ⟨g, cap, cur, hv, _, hgb, _⟩
  · rw [hv] at h; simp [Value.ownBlock] at h
  · rw [hv] at h
    simp only [Value.ownBlock, Option.some.injEq] at h
    subst h
    rw [hgb] at e
    have := b _ _ _ (Option.some.inj e).symm
    rcases hT with h | h
    · exact this.1 h
    · exact this.2 h⟩
theorem Kept.blk {M : Option Nat} {w w' : World} {b : Nat} {cs : Array Value} {t : TypeId} (h : Kept M w w') (hb : Blk w b cs t) (hM : some b ≠ M) (h1 : t ≠ 37) (h2 : t ≠ 46) : Blk w' b cs t :=
  h.2 b _ hb hM (fun cs' T fr e => by injection e with _ e2 _; subst e2; exact ⟨h1, h2⟩)
theorem push_kept {w1 : World} {base : Nat} {vo : Value} {l : List St} (hown : OwnApt w1 base vo l) (f : Int) (hl : (l.length + 1) * 32 ≤ 140737488355328) (hbase : base ≤ w1.heap.size) :
    ∃ a3 c3 w3, (Builtin.append_ #[22, 22] 22 #[vo, .slice (some ⟨w1.heap.size, 0, none⟩) 1 1]).run Tryd.prog (w1.alloc (.cells #[.int .i64 f, .slice none 0 0] 37)) = .ok (.slice a3 (l.length + 1) c3) w3 ∧ OwnApt w3 base (.slice a3 (l.length + 1) c3) (l ++ [(f, [])]) ∧ Below base w1 w3 ∧ Kept none w1 w3 := by
  obtain ⟨a3, c3, w3, hr, h1, h2⟩ := hown.push f hl hbase
  refine ⟨a3, c3, w3, hr, h1, h2, ?_⟩
  obtain ⟨i1, hi1, hy0, hy1, hy2⟩ := info_parts infoState
  obtain ⟨vs, q1, q2, _⟩ := hown
  have hB : Below w1.heap.size w1 (w1.alloc (.cells #[.int .i64 f, .slice none 0 0] 37)) := (Below.refl _ _).alloc (Nat.le_refl _) _
  obtain ⟨v4, w4, hr4, _, hg4, _⟩ := run_append_own (P := Tryd.prog) (w1.alloc (.cells #[.int .i64 f, .slice none 0 0] 37)) base 22 22 37 i1 _ 2 32 Tryd.underlying22 hi1 hy0 hy1 hy2 rfl (by omega) vo vs.length (vs.flatMap encS) (ownBelow q1 hB) ⟨w1.heap.size, 0, none⟩ 1 1 [.int .i64 f, .slice none 0 0] rfl (World.news_of_block (cs := #[.int .i64 f, .slice none 0 0]) (Blk.made w1 _ _)) (by
    intro u hu
    simp at hu
    rcases hu with rfl | rfl <;> rfl) (by rw [q2]; unfold maxLen; omega) (by rw [q2]; exact hl) (by simp; omega)
  have e := hr.symm.trans hr4
  injection e with _ e2
  rw [e2]
  exact (Kept.of hB).trans (Kept.grown (ownBelow q1 hB) (.inl rfl) hg4)
theorem arc_kept {w : World} {base : Nat} {v : Value} {t : List St} {s : St} (h : OwnApt w base v (t ++ [s])) (hbase : base ≤ w.heap.size) (c : Ar) (hl : (s.2.length + 1) * 32 ≤ 140737488355328) :
    ∃ g cap a4 c4, v = .slice (some ⟨g, 0, none⟩) (t.length + 1) cap ∧ base ≤ g ∧ g < w.heap.size ∧ w.cell? ⟨g, t.length * 2 + 1, none⟩ = some (.slice a4 s.2.length c4) ∧
      ∃ a5 c5 w4, (Builtin.append_ #[35, 35] 35 #[.slice a4 s.2.length c4, .slice (some ⟨w.heap.size, 0, none⟩) 1 1]).run Tryd.prog (w.alloc (.cells #[.int .i64 c.1, .int .i64 c.2.1, .int .i64 c.2.2.1, .int .i64 c.2.2.2] 46)) = .ok (.slice a5 (s.2.length + 1) c5) w4 ∧
        w4.cell? ⟨g, t.length * 2 + 1, none⟩ = some (.slice a4 s.2.length c4) ∧ w4.frozen? ⟨g, t.length * 2 + 1, none⟩ = false ∧ Below base w w4 ∧
        OwnApt (w4.setCell ⟨g, t.length * 2 + 1, none⟩ (.slice a5 (s.2.length + 1) c5)) base v (t ++ [(s.1, s.2 ++ [c])]) ∧ Kept none w w4 ∧ Kept none w4 (w4.setCell ⟨g, t.length * 2 + 1, none⟩ (.slice a5 (s.2.length + 1) c5)) := by
  obtain ⟨g, cap, a4, c4, hv, hbg, hgl, hc, a5, c5, w4, hr, hc4, hf4, hb4, ho4⟩ := h.arc hbase c hl
  refine ⟨g, cap, a4, c4, hv, hbg, hgl, hc, a5, c5, w4, hr, hc4, hf4, hb4, ho4, ?_⟩
  obtain ⟨i1, hi1, hy0, hy1, hy2⟩ := info_parts infoArc
  obtain ⟨vs, q1, q2, q3, _⟩ := h
  have hlen : vs.length = t.length + 1 := by rw [q2]; simp
  have hqs : el (t ++ [s]) t.length = s := el_last t s
  have h3 := (q3 t.length (by simp)).2
  rw [hqs] at h3
  have hvb : v.ownBlock = some g := by rw [hv]; rfl
  have hcell : w.cell? ⟨g, t.length * 2 + 1, none⟩ = some (el vs t.length).2 := by
    have h9 := q1.cells hvb (t.length * 2 + 1) (el vs t.length).2 (by rw [flat_at encS_len vs t.length (by omega) 1 (by omega)]; rfl)
    rw [Addr.add_lit, Nat.zero_add] at h9
    exact h9
  have he : (el vs t.length).2 = .slice a4 s.2.length c4 := Option.some.inj (hcell.symm.trans hc)
  rw [he] at h3
  have hB : Below w.heap.size w (w.alloc (.cells #[.int .i64 c.1, .int .i64 c.2.1, .int .i64 c.2.2.1, .int .i64 c.2.2.2] 46)) := (Below.refl _ _).alloc (Nat.le_refl _) _
  have hrow : Row 4 encA (w.alloc (.cells #[.int .i64 c.1, .int .i64 c.2.1, .int .i64 c.2.2.1, .int .i64 c.2.2.2] 46)) (.slice (some ⟨w.heap.size, 0, none⟩) 1 1) [c] := oneRow (enc := encA) w c rfl 46
  obtain ⟨v5, w5, r5, _, hg5, _⟩ := run_append_spot (P := Tryd.prog) encA_len (by decide) encA_one 35 35 base 46 i1 _ 32 Tryd.underlying35 hi1 hy0 hy1 hy2 rfl _ s.2.length (s.2.flatMap encA) (ownBelow h3 hB) _ [c] hrow (by simp; unfold maxLen; omega) (by simpa using hl) (by simp; omega)
  have e := hr.symm.trans r5
  injection e with _ e2
  have k1 : Kept none w w4 := by rw [e2]; exact (Kept.of hB).trans (Kept.grown (ownBelow h3 hB) (.inr rfl) hg5)
  refine ⟨k1, ?_⟩
  have hne : (Value.slice a4 s.2.length c4).ownBlock ≠ some g := by
    rcases own_apart h3 q1 (by decide) with e | e
    · rw [e]; simp
    · rw [← hvb]; exact e
  rcases q1.2 with ⟨_, h0⟩ | ⟨g', cap', cur, hv', _, hg', _⟩
  · omega
  · rw [hv] at hv'
    injection hv' with e1 _ _
    simp only [Option.some.injEq, Addr.mk.injEq, and_true, true_and] at e1
    subst e1
    have hgb : w4.heap[g]? = w.heap[g]? := by
      rw [e2, hg5.block g (by simp; omega) (Ne.symm hne)]
      exact hB.block g hgl
    exact Kept.setT (hgb.trans hg')
/-- The machine that is being read: a block of its own, its rows apart and behind. -/
def MacAt (base M : Nat) (z : Int) (l : List St) (W : World) : Prop := ∃ v, Blk W M #[.int .i64 z, v] 24 ∧ OwnApt W base v l
theorem MacAt.later {base M : Nat} {z : Int} {l : List St} {W W' : World} (h : MacAt base M z l W) (hb : Below W.heap.size W W') : MacAt base M z l W' := by
  obtain ⟨v, h1, h2⟩ := h
  exact ⟨v, h1.below hb h1.lt, h2.later hb⟩
theorem ne_toList {s : ByteArray} {l : List UInt8} (h : ¬ s.data.toList = l) : (s.toList == l) = false := by
  rw [ByteArray.toList_eq]; simpa using h
theorem eq_toList {s : ByteArray} {l : List UInt8} (h : s.data.toList = l) : (s.toList == l) = true := by
  rw [ByteArray.toList_eq]; simpa using h
theorem addStart_any (base M : Nat) (z : Int) (l : List St) (s : ByteArray) (W : World) (h : MacAt base M z l W) (hM : M < base) (hs : s.size ≤ 20000) (he : Errs W) :
    Calls Tryd.prog 42 #[.pointer (some ⟨M, 0, none⟩), .string s] W fun e W' => Below M W W' ∧ Kept (some M) W W' ∧ ((e = .returned (.bool true) ∧ ∃ z', startQ s.data.toList = some z' ∧ MacAt base M z' l W') ∨ (e = .returned (.bool false) ∧ startQ s.data.toList = none)) := by
  obtain ⟨v, hb, ho⟩ := h
  have HO : Hid (OwnApt W base v l) := ho
  have HB : Hid (Blk W M #[.int .i64 z, v] 24) := hb
  obtain ⟨a, cap, rfl⟩ := ho.sl
  have hlt := hb.lt
  clear ho hb
  by_cases c : s.data.toList = [45]
  · have hc := eq_toList c
    have HQ : Hid (startQ s.data.toList = some (-1)) := by show _ = _; unfold startQ; rw [if_pos c]
    have m0 := HB.out.cell 0 (v := .int .i64 z) rfl
    have f0 := HB.out.fz 0
    clear c
    go_enter Tryd.func42, Tryd.ntmps42
    go_wp2
    go_ret
    exact ⟨(Below.refl M W).setCell (p := ⟨M, 0, none⟩) (Nat.le_refl _) _, Kept.setM W M 0 _, .inl ⟨rfl, -1, HQ.out, _, HB.out.set 0 _, HO.out.setCell (a := ⟨M, 0, none⟩) hM _⟩⟩
  · have hc := ne_toList c
    have HQ : Hid (startQ s.data.toList = atO s.data.toList) := by show _ = _; unfold startQ; rw [if_neg c]
    have HZ : Hid (s.size ≤ 1000000) := by show _ ≤ _; omega
    have HE : Hid (Errs W) := he
    clear c he
    cases hq : atO s.data.toList with
    | some z' =>
      have HA : Hid (atO s.data.toList = some z') := hq
      clear hq
      go_enter Tryd.func42, Tryd.ntmps42
      go_wp2_with (first
        | (go_at_call 57; (with_reducible refine (atoi_ok s _ HZ.out z' HA.out).mono ?_); rintro e w1 ⟨rfl, hb1⟩; have HB1 : Hid (Blk w1 M #[.int .i64 z, .slice a l.length cap] 24) := HB.out.below hb1 hlt; have HO1 : Hid (OwnApt w1 base (.slice a l.length cap) l) := HO.out.later hb1; have HW1 : Hid (Below W.heap.size W w1) := hb1; have m0 := HB1.out.cell 0 (v := .int .i64 z) rfl; have f0 := HB1.out.fz 0; clear hb1))
      go_ret
      exact ⟨(HW1.out.mono (Nat.le_of_lt hlt)).setCell (p := ⟨M, 0, none⟩) (Nat.le_refl _) _, ((Kept.of HW1.out).any _).trans (Kept.setM w1 M 0 _), .inl ⟨rfl, z', by rw [HQ.out]; exact HA.out, _, HB1.out.set 0 _, HO1.out.setCell (a := ⟨M, 0, none⟩) hM _⟩⟩
    | none =>
      have HA : Hid (atO s.data.toList = none) := hq
      clear hq
      go_enter Tryd.func42, Tryd.ntmps42
      go_wp2_with (first
        | (go_at_call 57; (with_reducible refine (atoi_no s _ HZ.out HE.out HA.out).mono ?_); rintro e w1 ⟨v1, t1, x1, rfl, hb1⟩; have HB1 : Hid (Blk w1 M #[.int .i64 z, .slice a l.length cap] 24) := HB.out.below hb1 hlt; have HW1 : Hid (Below W.heap.size W w1) := hb1; have m0 := HB1.out.cell 0 (v := .int .i64 z) rfl; have f0 := HB1.out.fz 0; clear hb1))
      go_ret
      exact ⟨(HW1.out.mono (Nat.le_of_lt hlt)).setCell (p := ⟨M, 0, none⟩) (Nat.le_refl _) _, ((Kept.of HW1.out).any _).trans (Kept.setM w1 M 0 _), .inr ⟨rfl, by rw [HQ.out]; exact HA.out⟩⟩
set_option maxHeartbeats 1000000 in
theorem addState_any (base M : Nat) (z : Int) (l : List St) (s : ByteArray) (W : World) (h : MacAt base M z l W) (hM : M < base) (hbW : base ≤ W.heap.size) (hs : s.size ≤ 20000) (hl : l.length ≤ 100000) :
    Calls Tryd.prog 43 #[.pointer (some ⟨M, 0, none⟩), .string s] W fun e W' => Below M W W' ∧ Kept (some M) W W' ∧ ((e = .returned (.bool true) ∧ ∃ f, finQ s.data.toList = some f ∧ MacAt base M z (l ++ [(f, [])]) W') ∨ (e = .returned (.bool false) ∧ finQ s.data.toList = none)) := by
  obtain ⟨v, hb, ho⟩ := h
  obtain ⟨f, ec, hr⟩ : ∃ f ec, readR s = (f, ec) := ⟨_, _, rfl⟩
  have HR : Hid (Calls Tryd.prog 58 #[.string s] W fun e w' => e = .returned (.tuple #[.int .i64 f, .int .i64 ec]) ∧ W = w') := by
    have := read_any s W (by unfold maxLen; omega)
    rw [hr] at this
    exact this
  have hfq : finQ s.data.toList = if ec = 0 then some f else none := by
    unfold finQ
    rw [show textS s.data.toList = s from by apply bytes_inj2; rfl, hr]
  obtain ⟨a3, c3, w3, hr3, ho3, hb3, hk3⟩ := push_kept ho f (by omega) hbW
  have R3 : Hid ((Builtin.append_ #[22, 22] 22 #[v, .slice (some ⟨W.heap.size, 0, none⟩) 1 1]).run Tryd.prog (W.alloc (.cells #[.int .i64 f, .slice none 0 0] 37)) = .ok (.slice a3 (l.length + 1) c3) w3) := hr3
  have HO3 : Hid (OwnApt w3 base (.slice a3 (l.length + 1) c3) (l ++ [(f, [])])) := ho3
  have HW3 : Hid (Below M W w3) := hb3.mono (Nat.le_of_lt hM)
  have HK3 : Hid (Kept none W w3) := hk3
  have HB3 : Hid (Blk w3 M #[.int .i64 z, v] 24) := hk3.blk hb (by simp) (by decide) (by decide)
  have m1 := hb.cell 1 (v := v) rfl
  have n1 := HB3.out.cell 1 (v := v) rfl
  have f1 := HB3.out.fz 1
  obtain ⟨a, cap, rfl⟩ := ho.sl
  clear ho hb hr hr3 ho3 hb3 hk3
  go_enter Tryd.func43, Tryd.ntmps43
  go_wp2_with (first
    | (go_at_call 58; (with_reducible refine HR.out.mono ?_); rintro e w1 ⟨rfl, rfl⟩)
    | (at_builtin; refine wpListAppendRun rfl (.tmp 16) (.tmp 19) 22 rfl rfl rfl R3.out ?_))
  by_cases he : ec = 0
  · have he' : (ec == 0) = true := by simpa using he
    go_wp2
    go_ret
    exact ⟨HW3.out.setCell (p := ⟨M, 1, none⟩) (Nat.le_refl _) _, (HK3.out.any _).trans (Kept.setM w3 M 1 _), .inl ⟨by rw [he']; rfl, f, by rw [hfq, if_pos he], _, HB3.out.set 1 _, HO3.out.setCell (a := ⟨M, 1, none⟩) hM _⟩⟩
  · have he' : (ec == 0) = false := by simpa using he
    go_wp2
    go_ret
    exact ⟨HW3.out.setCell (p := ⟨M, 1, none⟩) (Nat.le_refl _) _, (HK3.out.any _).trans (Kept.setM w3 M 1 _), .inr ⟨by rw [he']; rfl, by rw [hfq, if_neg he]⟩⟩
end Go.Proofs.YthaefajpdncoeaaDoor.Wt
