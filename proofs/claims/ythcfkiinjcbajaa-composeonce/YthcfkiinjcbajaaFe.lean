/- compose.expanded's inner function: a hop is told. -/
import Derived.Test.YthcfkiinjcbajaaHm
import Derived.Test.YthcfkiinjcbajaaWm
import Derived.Test.YthcfkiinjcbajaaJ16b
namespace Go.Proofs.Ythcfkiinjcbajaa.Wt
open Go.ChangeShapes Go.WideShapes Go.ChangeAt Go.RowKit
open Go.Proofs.Ythcfkiinjcbajaa.Pl
set_option linter.unusedVariables false
set_option linter.unusedSimpArgs false
theorem timesW_over (a b : Int) (w : World) (ha : 0 ≤ a ∧ a ≤ 1000000000) (hb : 0 ≤ b ∧ b ≤ 1000000000) (h : 1000000000 < a + b) :
    Calls Try.prog 49 #[.int .i64 a, .int .i64 b] w fun e w' => e = .returned (.tuple #[.int .i64 0, .int .i64 4]) ∧ Below w.heap.size w w' := by
  have e : timesR a b = (0, 4) := by
    have h1 : (wtB a && wtB b) = true := by rw [wtB_true.2 (by omega), wtB_true.2 (by omega)]; rfl
    simp only [timesR, h1, if_true]
    rw [if_neg (by omega), if_pos h]
  have := timesM_any a b w
  rw [e] at this
  exact this
theorem timesW_fine (a b : Int) (w : World) (ha : 0 ≤ a ∧ a ≤ 1000000000) (hb : 0 ≤ b ∧ b ≤ 1000000000) (h : ¬ 1000000000 < a + b) :
    Calls Try.prog 49 #[.int .i64 a, .int .i64 b] w fun e w' => e = .returned (.tuple #[.int .i64 (a + b), .int .i64 0]) ∧ Below w.heap.size w w' := by
  have e : timesR a b = (a + b, 0) := by
    have h1 : (wtB a && wtB b) = true := by rw [wtB_true.2 (by omega), wtB_true.2 (by omega)]; rfl
    simp only [timesR, h1, if_true]
    rw [if_neg (by omega), if_neg h]
  have := timesM_any a b w
  rw [e] at this
  exact this
theorem slThree {v : Value} {n : Nat} (h : ∃ a c, v = .slice a n c) : ∃ a k c, v = .slice a k c := by obtain ⟨a, c, e⟩ := h; exact ⟨a, n, c, e⟩
/-- append(out, hop), and what else it leaves. -/
theorem OwnH.pushG {W : World} {base : Nat} {v : Value} {hs : List Hp} (h : OwnH W base v hs) (hb : base ≤ W.heap.size) (k : Hp) (hl : hs.length ≤ 1000000) :
    ∃ v' w', (Builtin.append_ #[28, 28] 28 #[v, .slice (some ⟨W.heap.size, 0, none⟩) 1 1]).run Try.prog (W.alloc (.cells (encH k).toArray 61)) = .ok v' w' ∧ OwnH w' base v' (hs ++ [k]) ∧ Below base W w' ∧ (W.alloc (.cells (encH k).toArray 61)).grownBy w' v.ownBlock := by
  obtain ⟨i1, hi1, hy0, hy1, hy2⟩ := info_parts infoHop
  obtain ⟨v4, w4, r4, ho4, hg4, _⟩ := run_append_spot (P := Try.prog) (w := W.alloc (.cells (encH k).toArray 61)) encH_len (by decide) encH_one 28 28 base 61 i1 _ 48 Try.underlying28 hi1 hy0 hy1 hy2 rfl _ hs.length (hs.flatMap encH) (World.ownsRow.alloc h _) _ [k] (oneRow (enc := encH) W k rfl 61) (by simp; unfold maxLen; omega) (by simp; omega) (by simp; omega)
  have ho : OwnH w4 base v4 (hs ++ [k]) := by unfold OwnH; rw [List.length_append, List.flatMap_append]; exact ho4
  exact ⟨v4, w4, r4, ho, ((Below.refl _ _).alloc hb _).grown hg4 (by simp; omega) (own_geK h), hg4⟩
/-- The error at E and the hops at H, when the hops T were told. -/
structure TelAt (w wr : World) (E H : Nat) (T : List Hp) : Prop where
  err : Blk wr E #[.int .i64 (telE T)] 29
  hop : ∃ v, Blk wr H #[v] 28 ∧ OwnH wr w.heap.size v (telH T)
  below : Below w.heap.size w wr
  hE : w.heap.size ≤ E
  hH : w.heap.size ≤ H
/-- All blocks but E, H and those of hops are as they were. -/
def TelK (E H : Nat) (w w' : World) : Prop := w.heap.size ≤ w'.heap.size ∧ ∀ k cs t, Blk w k cs t → k ≠ E → k ≠ H → t ≠ 61 → Blk w' k cs t
theorem TelK.refl (E H : Nat) (w : World) : TelK E H w w := ⟨Nat.le_refl _, fun _ _ _ h _ _ _ => h⟩
theorem TelK.trans {E H : Nat} {w w1 w2 : World} (h : TelK E H w w1) (k : TelK E H w1 w2) : TelK E H w w2 := ⟨Nat.le_trans h.1 k.1, fun q cs t hb h1 h2 h3 => k.2 q cs t (h.2 q cs t hb h1 h2 h3) h1 h2 h3⟩
theorem TelK.of {E H : Nat} {w w' : World} (h : Below w.heap.size w w') : TelK E H w w' := ⟨h.size, fun k cs t hb _ _ _ => hb.below h hb.lt⟩
theorem TelK.setE {E H o : Nat} {w : World} {v : Value} : TelK E H w (w.setCell ⟨E, o, none⟩ v) := ⟨by simp [World.setCell], fun k cs t hb h1 _ _ => hb.setO _ _ h1⟩
theorem TelK.setH {E H o : Nat} {w : World} {v : Value} : TelK E H w (w.setCell ⟨H, o, none⟩ v) := ⟨by simp [World.setCell], fun k cs t hb _ h2 _ => hb.setO _ _ h2⟩
theorem TelK.grown {E H base : Nat} {w w' : World} {v : Value} {hs : List Hp} (ho : OwnH w base v hs) (hg : w.grownBy w' v.ownBlock) : TelK E H w w' := ⟨hg.size, fun k cs t hb _ _ h3 => hb.grown hg (own_ne ho hb (Ne.symm h3))⟩
theorem TelAt.later {w wr w' : World} {E H : Nat} {T : List Hp} (h : TelAt w wr E H T) (hb : Below wr.heap.size wr w') : TelAt w w' E H T := by
  obtain ⟨v, h1, h2⟩ := h.hop
  exact ⟨h.err.below hb h.err.lt, ⟨v, h1.below hb h1.lt, h2.later hb⟩, h.below.trans (hb.mono h.below.size), h.hE, h.hH⟩
theorem TelAt.alloc {w wr : World} {E H : Nat} {T : List Hp} (h : TelAt w wr E H T) (o : Obj) : TelAt w (wr.alloc o) E H T := h.later ((Below.refl _ _).alloc (Nat.le_refl _) _)
set_option maxRecDepth 100000 in
set_option maxHeartbeats 3200000 in
theorem tell_any (w W : World) (E H : Nat) (T : List Hp) (x0 x1 x2 x3 y0 y1 y2 y3 f : Int) (h : TelAt w W E H T) (hx : 0 ≤ x2 ∧ x2 ≤ 1000000000) (hy : 0 ≤ y2 ∧ y2 ≤ 1000000000) (hl : T.length ≤ 900000) :
    Calls Try.prog 51 #[.agg #[.int .i64 x0, .int .i64 x1, .int .i64 x2, .int .i64 x3], .agg #[.int .i64 y0, .int .i64 y1, .int .i64 y2, .int .i64 y3], .int .i64 f, .pointer (some ⟨E, 0, none⟩), .pointer (some ⟨H, 0, none⟩)] W fun e W' => e = .returned (.tuple #[]) ∧ TelAt w W' E H (T ++ [(x0, y1, x2 + y2, x3, y3, f)]) ∧ TelK E H W W' := by
  have hA : Below W.heap.size W ((W.alloc (.cells #[.int .i64 x0, .int .i64 x1, .int .i64 x2, .int .i64 x3] 51)).alloc (.cells #[.int .i64 y0, .int .i64 y1, .int .i64 y2, .int .i64 y3] 51)) := ((Below.refl _ _).alloc (Nat.le_refl _) _).alloc (by simp) _
  have HT := hidP (h.later hA)
  have HK := hidP (TelK.of (E := E) (H := H) hA)
  have hEH : E ≠ H := by
    obtain ⟨v, h1, _⟩ := h.hop
    intro e
    subst e
    have h2 := h.err
    unfold Blk at h1 h2
    rw [h1] at h2
    exact absurd h2 (by simp)
  have kx := (Blk.made W #[.int .i64 x0, .int .i64 x1, .int .i64 x2, .int .i64 x3] 51).alloc (.cells #[.int .i64 y0, .int .i64 y1, .int .i64 y2, .int .i64 y3] 51)
  have ky := Blk.made (W.alloc (.cells #[.int .i64 x0, .int .i64 x1, .int .i64 x2, .int .i64 x3] 51)) #[.int .i64 y0, .int .i64 y1, .int .i64 y2, .int .i64 y3] 51
  rw [World.size_alloc] at ky
  have HX := hidP kx
  have HY := hidP ky
  have HL := hidP hl
  clear h hA kx ky hl
  by_cases hs : 1000000000 < x2 + y2
  · have HTM := hidP (fun W2 => timesW_over x2 y2 W2 hx hy hs)
    have HE := hidP (telE_over (T := T) (h := (x0, y1, x2 + y2, x3, y3, f)) hs)
    have HH := hidP (telH_over (T := T) (h := (x0, y1, x2 + y2, x3, y3, f)) hs)
    clear hx hy hs
    go_enter Try.func51, Try.ntmps51
    go_wp2_with (first
      | (go_at_call 49; (with_reducible refine (HTM.out _).mono ?_); rintro e w3 ⟨rfl, hb3⟩; have T3 := hidP (HT.out.later hb3); have K3 := hidP (HK.out.trans (TelK.of hb3)); have cE := T3.out.err.cell 0 (v := .int .i64 (telE T)) rfl; have fE := T3.out.err.fz 0; clear hb3))
    exact bodyPost_ret (v := .tuple #[]) (by simp [results, Try.results51, go_sem]) rfl ⟨rfl, by
      obtain ⟨v, h1, h2⟩ := T3.out.hop
      refine ⟨?_, ⟨v, h1.setO _ _ (Ne.symm hEH), ?_⟩, T3.out.below.setCell (p := ⟨E, 0, none⟩) T3.out.hE _, T3.out.hE, T3.out.hH⟩
      · rw [HE.out]
        exact T3.out.err.set 0 _
      · rw [HH.out]
        exact World.ownsRow.kept h2 (gSet _ E 0 _) (.inr (Ne.symm (own_ne h2 T3.out.err (by decide)))), K3.out.trans TelK.setE⟩
  · have HTM := hidP (fun W2 => timesW_fine x2 y2 W2 hx hy hs)
    have HE := hidP (telE_fine (T := T) (h := (x0, y1, x2 + y2, x3, y3, f)) hs)
    have HH := hidP (telH_fine (T := T) (h := (x0, y1, x2 + y2, x3, y3, f)) hs)
    clear hx hy hs
    go_enter Try.func51, Try.ntmps51
    go_wp2_with (first
      | (go_at_call 49; (with_reducible refine (HTM.out _).mono ?_); rintro e w3 ⟨rfl, hb3⟩; have T3 := hidP (HT.out.later hb3); have K3 := hidP (HK.out.trans (TelK.of hb3)); have kx3 := HX.out.below hb3 HX.out.lt; have ky3 := HY.out.below hb3 HY.out.lt; have a0 := kx3.cell 0 (v := .int .i64 x0) rfl; have a3 := kx3.cell 3 (v := .int .i64 x3) rfl; have b1 := ky3.cell 1 (v := .int .i64 y1) rfl; have b3 := ky3.cell 3 (v := .int .i64 y3) rfl; obtain ⟨v, hv1, hv2⟩ := T3.out.hop; have cH := hv1.cell 0 (v := v) rfl; obtain ⟨v5, w5, hr5, ho5, hb5, hg5⟩ := hv2.pushG T3.out.below.size (x0, y1, x2 + y2, x3, y3, f) (by have := telH_len T; have := HL.out; omega); obtain ⟨a5, n5, c5, hv5⟩ := slThree ho5.sl; subst hv5; have HR := hidP hr5; have HO5 := hidP ho5; have HB5 := hidP hb5; have h5 := (hv1.alloc (.cells (encH (x0, y1, x2 + y2, x3, y3, f)).toArray 61)).grown hg5 (own_ne hv2 hv1 (by decide)); have HH5 := hidP h5; have cH5 := h5.cell 0 (v := v) rfl; have fH5 := h5.fz 0; have HE5 := hidP ((T3.out.err.alloc (.cells (encH (x0, y1, x2 + y2, x3, y3, f)).toArray 61)).grown hg5 (own_ne hv2 T3.out.err (by decide))); have K5 := hidP (K3.out.trans ((TelK.of ((Below.refl w3.heap.size w3).alloc (Nat.le_refl _) _)).trans (TelK.grown (World.ownsRow.alloc hv2 _) hg5))); clear hb3 kx3 ky3 hv1 hv2 hr5 ho5 hb5 hg5 h5)
      | (at_builtin; refine wpListAppendRun rfl _ _ 28 rfl rfl rfl HR.out ?_; clear HR))
    go_end0
    exact ⟨rfl, by
      refine ⟨?_, ⟨.slice a5 n5 c5, HH5.out.set 0 _, ?_⟩, (T3.out.below.trans HB5.out).setCell (p := ⟨H, 0, none⟩) T3.out.hH _, T3.out.hE, T3.out.hH⟩
      · rw [HE.out]
        exact HE5.out.setO _ _ hEH
      · rw [HH.out]
        exact World.ownsRow.kept HO5.out (gSet _ H 0 _) (.inr (Ne.symm (own_ne HO5.out HH5.out (by decide)))), K5.out.trans TelK.setH⟩
end Go.Proofs.Ythcfkiinjcbajaa.Wt
