/- Copies of lists of numbers (slices.Clone), marks copied; the reference's Better, bestOf. -/
import Derived.Test.YtkeeiihaijhdoaaSkb
import Derived.Test.YtkeeiihaijhdoaaSg
import Derived.Test.YtkeeiihaijhdoaaSn
import Derived.Lib.BufferMore
namespace Go.Proofs.Ytkeeiihaijhdoaa.Sm
open Go.ChangeShapes Go.WideShapes Go.ChangeAt Go.RowKit
open Go.Proofs.Ytkeeiihaijhdoaa.Pl Go.Proofs.Ytkeeiihaijhdoaa.Wt
set_option linter.unusedVariables false
set_option linter.unusedSimpArgs false
/-- Numbers of the call's own. -/
def OwnN (w : World) (base : Nat) (v : Value) (l : List Int) : Prop := w.ownsRow base 3 1 v l.length (l.flatMap encI1)
theorem OwnN.nil (w : World) (base : Nat) : OwnN w base (.slice none 0 0) [] := World.ownsRow_nil _ _ _ _
theorem OwnN.nums {w : World} {base : Nat} {v : Value} {l : List Int} (h : OwnN w base v l) : Nums w v l := Row.ofOwn encI1_len h rfl
theorem OwnN.later {w w' : World} {base : Nat} {v : Value} {l : List Int} (h : OwnN w base v l) (hb : Below w.heap.size w w') : OwnN w' base v l := ownBelow h hb
theorem OwnN.mono {w : World} {base base' : Nat} {v : Value} {l : List Int} (h : OwnN w base v l) (hb : base' ≤ base) : OwnN w base' v l := ownMono h hb
theorem OwnN.set {w : World} {base : Nat} {v : Value} {l : List Int} (h : OwnN w base v l) {a : Addr} (ha : a.block < base) (u : Value) : OwnN (w.setCell a u) base v l := ownsRow_setCell_below h ha u
theorem OwnN.sl {w : World} {base : Nat} {v : Value} {l : List Int} (h : OwnN w base v l) : ∃ a c, v = .slice a l.length c := own_sl h
/-- append(out, x). -/
theorem OwnN.push {W : World} {base : Nat} {v : Value} {l : List Int} (h : OwnN W base v l) (x : Int) (hl : l.length ≤ 17592186044000) (hbase : base ≤ W.heap.size) :
    ∃ a k w', (Builtin.append_ #[35, 35] 35 #[v, .slice (some ⟨W.heap.size, 0, none⟩) 1 1]).run Try.prog (W.alloc (.cells #[.int .i64 x] 3)) = .ok (.slice a (l.length + 1) k) w' ∧ OwnN w' base (.slice a (l.length + 1) k) (l ++ [x]) ∧ Below base W w' ∧ (W.alloc (.cells #[.int .i64 x] 3)).grownBy w' v.ownBlock := by
  obtain ⟨i1, hi1, hy0, hy1, hy2⟩ := info_parts infoIntU
  have hB : Below W.heap.size W (W.alloc (.cells #[.int .i64 x] 3)) := (Below.refl _ _).alloc (Nat.le_refl _) _
  have hrow : Row 1 encI1 (W.alloc (.cells #[.int .i64 x] 3)) (.slice (some ⟨W.heap.size, 0, none⟩) 1 1) [x] := oneRow (enc := encI1) W x rfl 3
  obtain ⟨v4, w4, r4, h4, g4, _⟩ := run_append_spot (P := Try.prog) encI1_len (by decide) encI1_one 35 35 base 3 i1 _ 8 Try.underlying35 hi1 hy0 hy1 hy2 rfl _ l.length (l.flatMap encI1) (ownBelow h hB) _ [x] hrow (by simp; unfold maxLen; omega) (by simp; omega) (by simp; omega)
  obtain ⟨a, k, hv⟩ := own_sl h4
  subst hv
  refine ⟨a, k, w4, r4, by unfold OwnN; rw [List.length_append, List.flatMap_append]; exact h4, (hB.mono hbase).trans ((Below.refl _ _).grown g4 (by simp; omega) (fun k hk => (h.lt k hk).1)), g4⟩
set_option maxRecDepth 100000 in
theorem clone_any (v : Value) (l : List Int) (w : World) (h : Nums w v l) (hs : l.length ≤ 17592186044000) :
    Calls Try.prog 71 #[v] w fun e w' => ∃ v', e = .returned v' ∧ OwnN w' w.heap.size v' l ∧ Below w.heap.size w w' := by
  obtain ⟨i0, hi0, hz0, hz1, hz2⟩ := info_parts infoIntU
  obtain ⟨a, cap, rfl⟩ := Row.sl h
  cases a with
  | none =>
    have hl0 : l = [] := by
      rcases h with ⟨_, h⟩ | ⟨x, c, hv, _⟩
      · exact h
      · simp at hv
    subst hl0
    have hc : cap = 0 := by
      rcases h with ⟨h, _⟩ | ⟨x, c, hv, _⟩
      · simp at h; exact h
      · simp at hv
    subst hc
    have hnil : ∀ W, (binOp .eql 35 (.slice none 0 0) (.slice none 0 0)).run Try.prog W = .ok (.bool true) W := fun W => Lib.run_eql_slice_nil_nil W _ _ Try.underlying35
    go_enter Try.func71, Try.ntmps71
    go_wp2
    go_ret
    exact ⟨_, rfl, OwnN.nil _ _, Below.refl _ _⟩
  | some a =>
    have hB0 : Below w.heap.size w (w.alloc (.cells #[] 3)) := (Below.refl _ _).alloc (Nat.le_refl _) _
    have h0 : (w.alloc (.cells #[] 3)).ownsRow w.heap.size 3 1 (.slice (some ⟨w.heap.size, 0, none⟩) 0 0) 0 [] := World.ownsRow_made (e := 3) (size := 1) (base := w.heap.size) w #[] 0 (Nat.le_refl _) (by unfold maxLen; omega) rfl
    obtain ⟨v1, w1, r1, ho1, hg1⟩ := run_append_rows (P := Try.prog) (w := w.alloc (.cells #[] 3)) encI1_len (by decide) encI1_one 35 35 w.heap.size 3 i0 _ 8 Try.underlying35 hi0 hz0 hz1 hz2 rfl _ 0 [] h0 _ l (h.later hB0 (Nat.le_refl _)) (by unfold maxLen; omega) (by omega) (by simp)
    have HR1 := hidP r1
    have HX : Hid (OwnN w1 w.heap.size v1 l) := own_zero ho1
    have HB : Hid (Below w.heap.size w w1) := hB0.trans ((Below.refl _ _).grown hg1 (by simp) (by simp [Value.ownBlock]))
    clear r1 ho1 hg1 h h0
    have hnil : ∀ W, (binOp .eql 35 (.slice (some a) l.length cap) (.slice none 0 0)).run Try.prog W = .ok (.bool false) W := fun W => Lib.run_eql_slice_some_nil W _ _ _ Try.underlying35
    go_enter Try.func71, Try.ntmps71
    go_wp2_with (first
      | (at_builtin; refine wpListAppendRun rfl _ _ 35 rfl rfl rfl HR1.out ?_; clear HR1))
    go_ret
    exact ⟨_, rfl, HX.out, HB.out⟩
/-- The mark with what it wrote in memory of its own. -/
theorem copied_any (v : Value) (k : Mk) (w : World) (h : MkIs w v k) (hs : k.2.2.length ≤ 17592186044000) :
    Calls Try.prog 53 #[v] w fun e w' => ∃ vo, e = .returned (.agg #[.int .i64 k.1, .int .i64 k.2.1, vo]) ∧ OwnN w' w.heap.size vo k.2.2 ∧ Below w.heap.size w w' := by
  obtain ⟨q, x, l⟩ := k
  obtain ⟨vo, rfl, hn⟩ := h
  simp only at hn hs ⊢
  have HN : Hid (Nums w vo l) := hn
  obtain ⟨a, c, rfl⟩ := Row.sl hn
  clear hn
  have HU : Hid (Below w.heap.size w ((w.alloc (.cells #[.int .i64 q, .int .i64 x, .slice a l.length c] 67)).alloc (.cells #[.int .i64 0, .int .i64 0, .slice none 0 0] 67))) := by show Below _ _ _; go_grown
  go_enter Try.func53, Try.ntmps53
  go_wp2_with (first
    | (go_at_call 71; (with_reducible refine (clone_any _ l _ (HN.out.later HU.out (Nat.le_refl _)) hs).mono ?_); rintro e w1 ⟨v1, rfl, ho, hb⟩; have HO : Hid (OwnN w1 (w.heap.size + 2) v1 l) := (by show OwnN _ _ _ _; simpa using ho); obtain ⟨a1, c1, rfl⟩ := ho.sl; obtain ⟨s1, b1, b2, hb1⟩ := boxedTwo hb (by simp); have HB1 : Hid (Below w.heap.size w w1) := hb1; have e0 := b1.cell 0 (v := .int .i64 q) rfl; have e1 := b1.cell 1 (v := .int .i64 x) rfl; have e2 := b1.cell 2 (v := .slice a l.length c) rfl; have f2 := b1.fz 2; have d0 := b2.cell 0 (v := .int .i64 0) rfl; have d1 := b2.cell 1 (v := .int .i64 0) rfl; have d2 := b2.cell 2 (v := .slice none 0 0) rfl; have g0 := b2.fz 0; have g1 := b2.fz 1; have g2 := b2.fz 2; clear b1 b2 hb1 hb ho))
  exact bodyPost_ret (v := .agg #[.int .i64 q, .int .i64 x, .slice a1 l.length c1]) (by simp [results, Try.results53, go_sem, *]) rfl ⟨_, rfl, OwnN.mono ((((HO.out.set (by show w.heap.size < _; omega) _).set (by show w.heap.size + 1 < _; omega) _).set (by show w.heap.size + 1 < _; omega) _).set (by show w.heap.size + 1 < _; omega) _) (by omega), by have h9 := HB1.out; go_grown⟩
set_option maxRecDepth 100000 in
set_option maxHeartbeats 1600000 in
/-- The reference's Better. -/
theorem better_any (va vb : Value) (ka kb : Mk) (w : World) (ha : MkIs w va ka) (hb : MkIs w vb kb) (hs : ka.2.2.length ≤ 17592186044000) :
    Calls Try.prog 61 #[va, vb] w fun e w' => e = .returned (.bool (betB ka.2 kb.2)) ∧ Below w.heap.size w w' := by
  obtain ⟨qa, xa, la⟩ := ka
  obtain ⟨qb, xb, lb⟩ := kb
  obtain ⟨voa, rfl, na⟩ := ha
  obtain ⟨vob, rfl, nb⟩ := hb
  simp only at na nb hs ⊢
  obtain ⟨aa, ca, rfl, hca⟩ := na.get
  obtain ⟨ab, cb, rfl, hcb⟩ := nb.get
  have HU : Hid (Below w.heap.size w ((w.alloc (.cells #[.int .i64 qa, .int .i64 xa, .slice aa la.length ca] 67)).alloc (.cells #[.int .i64 qb, .int .i64 xb, .slice ab lb.length cb] 67))) := by show Below _ _ _; go_grown
  by_cases h1 : xa = xb
  · by_cases h2 : la.length = lb.length
    · have HR : Hid (betB (xa, la) (xb, lb) = lexB la lb) := by show _ = _; simp [betB, h1, h2]
      subst h1
      have HA : Hid (∀ j, j < la.length → ∃ b off, aa = some ⟨b, off, none⟩ ∧ b < w.heap.size ∧ w.cell? ⟨b, off + j, none⟩ = some (.int .i64 (el la j))) := hca
      have HB : Hid (∀ j, j < la.length → ∃ b off, ab = some ⟨b, off, none⟩ ∧ b < w.heap.size ∧ w.cell? ⟨b, off + j, none⟩ = some (.int .i64 (el lb j))) := by rw [h2]; exact hcb
      have HS : Hid (∀ k, k < la.length → lexB (la.drop k) (lb.drop k) = if el la k = el lb k then lexB (la.drop (k + 1)) (lb.drop (k + 1)) else decide (el la k < el lb k)) := fun k hk => lexB_drop hk (by omega)
      have HE : Hid (lexB (la.drop la.length) (lb.drop la.length) = false) := lexB_end (Nat.le_refl _)
      have HG : Hid (betB (xa, la) (xa, lb) = lexB (la.drop 0) (lb.drop 0)) := HR.out
      rw [← h2] at HU ⊢
      clear na nb hca hcb h2 HR
      generalize betB (xa, la) (xa, lb) = g at *
      generalize la.length = n at *
      go_enter Try.func61, Try.ntmps61
      go_wp2
      go_loopw [5] (fun i wr => ∃ k q : Nat, k ≤ n ∧ i = .int .i64 k ∧ Hid (g = lexB (la.drop k) (lb.drop k)) ∧ wr = ((w.alloc (.cells #[.int .i64 qa, .int .i64 xa, .slice aa n ca] 67)).alloc (.cells #[.int .i64 qb, .int .i64 xa, .slice ab n cb] 67)).drewN q) (fun i _ => n - (intOf i).toNat)
      case atStart => exact ⟨0, 0, Nat.zero_le _, rfl, HG, (World.drewN_zero _).symm⟩
      case round =>
        clear HG
        obtain ⟨k, q, hk, rfl, hg, hw⟩ := hrel
        have HW : Hid (wr = ((w.alloc (.cells #[.int .i64 qa, .int .i64 xa, .slice aa n ca] 67)).alloc (.cells #[.int .i64 qb, .int .i64 xa, .slice ab n cb] 67)).drewN q) := hw
        have hb : Below w.heap.size w wr := by rw [hw]; exact below_drewN (by go_grown) q
        have c0 : wr.cell? ⟨w.heap.size, 2, none⟩ = some (.slice aa n ca) := by rw [hw]; go_cell
        have c1 : wr.cell? ⟨w.heap.size + 1, 2, none⟩ = some (.slice ab n cb) := by rw [hw]; go_cell
        clear hw
        by_cases hlt : k < n
        · have hk0 : (0 : Int) ≤ (k : Int) := by omega
          have hk1 : (k : Int) < (n : Int) := by omega
          obtain ⟨b, off, rfl, hbl, g0⟩ := HA.out k hlt
          obtain ⟨b2, off2, rfl, hbl2, r0⟩ := HB.out k hlt
          have g0 := (hb.cell (p := ⟨b, off + k, none⟩) hbl).trans g0
          have r0 := (hb.cell (p := ⟨b2, off2 + k, none⟩) hbl2).trans r0
          have HSk := hidP (HS.out k hlt)
          clear hbl hbl2
          have HBW := hidP hb
          clear hb
          by_cases he : el la k = el lb k
          · have HN : Hid (g = lexB (la.drop (k + 1)) (lb.drop (k + 1))) := by show g = _; rw [hg.out, HSk.out, if_pos he]
            clear HSk hg
            generalize el la k = x at *
            generalize el lb k = y at *
            subst he
            go_wp2
            go_quiet (fail)
            go_wp2
            go_roundw
            case rel => exact ⟨k + 1, q + nq, by omega, by go_num, HN, by rw [HW.out, World.drewN_drewN]⟩
            case measure => simp [intOf]; omega
          · have HN : Hid (g = decide (el la k < el lb k)) := by show g = _; rw [hg.out, HSk.out, if_neg he]
            clear HSk hg
            generalize el la k = x at *
            generalize el lb k = y at *
            go_wp2
            go_quiet (fail)
            go_wp2
            go_quiet (fail)
            go_wp2
            go_ret
            exact ⟨by rw [HN.out]; rfl, by first | exact below_drewN (below_drewN HBW.out _) _ | (rw [World.drewN_drewN]; exact below_drewN HBW.out _) | exact HBW.out⟩
        · have hnl : ¬ (k : Int) < (n : Int) := by omega
          have hkn : k = n := by omega
          have HG : Hid (g = false) := by show g = _; rw [hg.out, hkn, HE.out]
          clear hg
          go_wp2
          go_ret
          exact ⟨by rw [HG.out]; rfl, hb⟩
    · have HR : Hid (betB (xa, la) (xb, lb) = decide (la.length < lb.length)) := by show _ = _; simp [betB, h1, h2]
      subst h1
      have h2' : (la.length : Int) ≠ (lb.length : Int) := by omega
      clear h2
      go_enter Try.func61, Try.ntmps61
      go_wp2
      go_ret
      exact ⟨by rw [HR.out]; rfl, HU.out⟩
  · have HR : Hid (betB (xa, la) (xb, lb) = decide (xa < xb)) := by show _ = _; simp [betB, h1]
    go_enter Try.func61, Try.ntmps61
    go_wp2
    go_ret
    exact ⟨by rw [HR.out]; rfl, HU.out⟩
end Go.Proofs.Ytkeeiihaijhdoaa.Sm
