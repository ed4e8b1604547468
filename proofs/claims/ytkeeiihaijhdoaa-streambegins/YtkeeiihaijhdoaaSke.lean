/- The statement's copy of a run, and its comparison of two. -/
import Derived.Test.YtkeeiihaijhdoaaSkd
import Derived.Test.YtkeeiihaijhdoaaNi
import Derived.Test.YtkeeiihaijhdoaaLo
namespace Go.Proofs.Ytkeeiihaijhdoaa.Sm
open Go.ChangeShapes Go.WideShapes Go.ChangeAt Go.RowKit
open Go.Proofs.Ytkeeiihaijhdoaa.Pl Go.Proofs.Ytkeeiihaijhdoaa.Wt
set_option linter.unusedVariables false
set_option linter.unusedSimpArgs false
/-- The slice value v is the call's own and holds marks, each with memory of the call's own. -/
def OwnM (w : World) (base : Nat) (v : Value) (l : List Mk) : Prop :=
  ∃ vs : List MkV, w.ownsRow base 67 3 v vs.length (vs.flatMap encM) ∧ vs.length = l.length ∧ ∀ j, j < l.length → (el vs j).1 = (el l j).1 ∧ (el vs j).2.1 = (el l j).2.1 ∧ OwnN w base (el vs j).2.2 (el l j).2.2
theorem OwnM.nil (w : World) (base : Nat) : OwnM w base (.slice none 0 0) [] := ⟨[], World.ownsRow_nil _ _ _ _, rfl, by simp⟩
theorem OwnM.marks {w : World} {base : Nat} {v : Value} {l : List Mk} (h : OwnM w base v l) : Marks w v l := by
  obtain ⟨vs, h1, h2, h3⟩ := h
  exact ⟨vs, Row.ofOwn encM_len h1 rfl, h2, fun j hj => ⟨(h3 j hj).1, (h3 j hj).2.1, (h3 j hj).2.2.nums⟩⟩
theorem OwnM.sl {w : World} {base : Nat} {v : Value} {l : List Mk} (h : OwnM w base v l) : ∃ a c, v = .slice a l.length c := h.marks.sl
theorem OwnM.later {w w' : World} {base : Nat} {v : Value} {l : List Mk} (h : OwnM w base v l) (hb : Below w.heap.size w w') : OwnM w' base v l := by
  obtain ⟨vs, h1, h2, h3⟩ := h
  exact ⟨vs, ownBelow h1 hb, h2, fun j hj => ⟨(h3 j hj).1, (h3 j hj).2.1, (h3 j hj).2.2.later hb⟩⟩
theorem OwnM.mono {w : World} {base base' : Nat} {v : Value} {l : List Mk} (h : OwnM w base v l) (hb : base' ≤ base) : OwnM w base' v l := by
  obtain ⟨vs, h1, h2, h3⟩ := h
  exact ⟨vs, ownMono h1 hb, h2, fun j hj => ⟨(h3 j hj).1, (h3 j hj).2.1, (h3 j hj).2.2.mono hb⟩⟩
theorem OwnM.set {w : World} {base : Nat} {v : Value} {l : List Mk} (h : OwnM w base v l) {a : Addr} (ha : a.block < base) (u : Value) : OwnM (w.setCell a u) base v l := by
  obtain ⟨vs, h1, h2, h3⟩ := h
  exact ⟨vs, ownsRow_setCell_below h1 ha u, h2, fun j hj => ⟨(h3 j hj).1, (h3 j hj).2.1, (h3 j hj).2.2.set ha u⟩⟩
/-- append(out, k), out and what k wrote the call's own. -/
theorem OwnM.push {W : World} {base : Nat} {vo va : Value} {l : List Mk} (hown : OwnM W base vo l) (k : Mk) (hva : OwnN W base va k.2.2) (hl : (l.length + 1) * 40 ≤ 140737488355328) (hbase : base ≤ W.heap.size) :
    ∃ a c w3, (Builtin.append_ #[26, 26] 26 #[vo, .slice (some ⟨W.heap.size, 0, none⟩) 1 1]).run Try.prog (W.alloc (.cells #[.int .i64 k.1, .int .i64 k.2.1, va] 67)) = .ok (.slice a (l.length + 1) c) w3 ∧ OwnM w3 base (.slice a (l.length + 1) c) (l ++ [k]) ∧ Below base W w3 := by
  obtain ⟨i1, hi1, hy0, hy1, hy2⟩ := info_parts infoMark
  obtain ⟨vs, q1, q2, q3⟩ := hown
  have hg : W.grownBy (W.alloc (.cells #[.int .i64 k.1, .int .i64 k.2.1, va] 67)) none := ⟨rfl, rfl, rfl, by simp, fun k hk _ => Below.heap_alloc W _ k hk⟩
  have e0 : (W.alloc (.cells #[.int .i64 k.1, .int .i64 k.2.1, va] 67)).heap[W.heap.size]? = some (.cells #[.int .i64 k.1, .int .i64 k.2.1, va] 67 (0, 0)) := Blk.made W _ _
  have kn : ∀ v : Value, v.ownBlock = none ∨ v.ownBlock ≠ none := fun v => by rcases v.ownBlock with _ | _ <;> simp
  have hvo := q1.kept hg (kn _)
  obtain ⟨v3, w3, hr, h1, h2, _⟩ := run_append_own (P := Try.prog) (W.alloc (.cells #[.int .i64 k.1, .int .i64 k.2.1, va] 67)) base 26 26 67 i1 _ 3 40 Try.underlying26 hi1 hy0 hy1 hy2 rfl (by omega) vo vs.length (vs.flatMap encM) hvo ⟨W.heap.size, 0, none⟩ 1 1 [.int .i64 k.1, .int .i64 k.2.1, va] rfl (World.news_of_block (cs := #[.int .i64 k.1, .int .i64 k.2.1, va]) e0) (by
    intro u hu
    simp at hu
    rcases hu with rfl | rfl | rfl
    · rfl
    · rfl
    · exact own_one hva) (by rw [q2]; unfold maxLen; omega) (by rw [q2]; exact hl) (by simp; omega)
  have hO : OwnM w3 base v3 (l ++ [k]) := by
    refine ⟨vs ++ [(k.1, k.2.1, va)], by simpa [encM] using h1, by simp [q2], ?_⟩
    intro j hj
    have hj' : j < l.length ∨ j = l.length := by simp at hj; omega
    rcases hj' with hj' | rfl
    · rw [el_left (by omega), el_left hj']
      have := World.ownsRow.kept (q3 j hj').2.2 hg (kn _)
      exact ⟨(q3 j hj').1, (q3 j hj').2.1, World.ownsRow.kept this h2 (own_apart this hvo (by decide))⟩
    · rw [el_last, ← q2, el_last]
      have := World.ownsRow.kept hva hg (kn _)
      exact ⟨rfl, rfl, World.ownsRow.kept this h2 (own_apart this hvo (by decide))⟩
  obtain ⟨a, c, hv⟩ := hO.sl
  rw [List.length_append, List.length_singleton] at hv
  subst hv
  exact ⟨a, c, w3, hr, hO, ((Below.refl _ _).grown hg hbase (by simp)).grown h2 (by simp; omega) (own_geK hvo)⟩
theorem ints_own (v : Value) (l : List Int) (w : World) (h : Nums w v l) (hok : l.length * 8 ≤ 140737488351232) :
    Calls Try.prog 15 #[v] w fun e w' => ∃ v', e = .returned v' ∧ OwnN w' w.heap.size v' l ∧ Below w.heap.size w w' := by
  obtain ⟨i0, hi0, hz0, hz1, hz2⟩ := info_parts infoIntU
  obtain ⟨v1, w1, r1, ho1, hg1⟩ := run_append_rows (P := Try.prog) (w := w) encI1_len (by decide) encI1_one 35 35 w.heap.size 3 i0 _ 8 Try.underlying35 hi0 hz0 hz1 hz2 rfl (.slice none 0 0) 0 [] (World.ownsRow_nil _ _ _ _) v l h (by unfold maxLen; omega) (by omega) (Nat.le_refl _)
  have HR1 := hidP r1
  have HX : Hid (OwnN w1 w.heap.size v1 l) := own_zero ho1
  have HB : Hid (Below w.heap.size w w1) := below_new (Nat.le_refl _) hg1
  clear r1 ho1 hg1 h
  go_enter Try.func15, Try.ntmps15
  go_wp2_with (first
    | (at_builtin; refine wpListAppendRun rfl _ _ 35 rfl rfl rfl HR1.out ?_; clear HR1))
  go_ret
  exact ⟨_, rfl, HX.out, HB.out⟩
set_option maxRecDepth 100000 in
set_option maxHeartbeats 1600000 in
theorem runs_any (v : Value) (r : Ru) (w : World) (h : RunV w v r) (hok : okU r) :
    Calls Try.prog 14 #[v] w fun e w' => ∃ v', e = .returned v' ∧ RunV w' v' r ∧ Below w.heap.size w w' := by
  obtain ⟨z, l⟩ := r
  obtain ⟨vs, rfl, hM⟩ := h
  obtain ⟨hL, hO⟩ := hok
  simp only at hM hL hO ⊢
  obtain ⟨a, cap, rfl, hc⟩ := hM.get
  have HC : Hid (∀ j, j < l.length → ∃ b off vo, a = some ⟨b, off, none⟩ ∧ b < w.heap.size ∧ w.cell? ⟨b, off + j * 3, none⟩ = some (.int .i64 (el l j).1) ∧ w.cell? ⟨b, off + j * 3 + 1, none⟩ = some (.int .i64 (el l j).2.1) ∧ w.cell? ⟨b, off + j * 3 + 2, none⟩ = some vo ∧ Nums w vo (el l j).2.2) := hc
  have HO := hidP hO
  clear hM hc hO
  generalize hn : l.length = n at *
  have HLN := hidP hn
  clear hn
  go_enter Try.func14, Try.ntmps14
  go_wp2
  go_loopw [4] (fun i wr => ∃ (k : Nat) (vo : Value), k ≤ n ∧ i = .int .i64 k ∧ Hid (OwnM wr (w.heap.size + 3) vo (l.take k)) ∧ Hid (Blk wr w.heap.size #[.int .i64 z, .slice a n cap] 28) ∧ Hid (Blk wr (w.heap.size + 1) #[.int .i64 0, .slice none 0 0] 28) ∧ Hid (Blk wr (w.heap.size + 2) #[.int .i64 z, vo] 28) ∧ w.heap.size + 3 ≤ wr.heap.size ∧ Hid (Below w.heap.size w wr)) (fun i _ => n - (intOf i).toNat)
  case atStart => exact ⟨0, .slice none 0 0, Nat.zero_le _, rfl, OwnM.nil _ _, blk_a _ _ _ _ _, blk_b _ _ _ _ _, blk_c _ _ _ _ _, by simp, by show Below _ _ _; go_grown⟩
  case round =>
    obtain ⟨k, vo, hk, rfl, hown, b0, b1, b2, hs, hb⟩ := hrel
    obtain ⟨ar, cr, hvo⟩ := hown.out.sl
    subst hvo
    have hlk : (l.take k).length = k := by rw [List.length_take, HLN.out]; omega
    rw [hlk] at hown b2
    clear hlk
    have c1 := b0.out.cell 1 (v := .slice a n cap) rfl
    have c2 := b2.out.cell 0 (v := .int .i64 z) rfl
    have c3 := b2.out.cell 1 (v := .slice ar k cr) rfl
    by_cases hlt : k < n
    · obtain ⟨b, off, vi, rfl, hbl, g0, g1, g2, hN⟩ := HC.out k hlt
      have g0 := (hb.out.cell (p := ⟨b, off + k * 3, none⟩) hbl).trans g0
      have g1 := (hb.out.cell (p := ⟨b, off + k * 3 + 1, none⟩) hbl).trans g1
      have g2 := (hb.out.cell (p := ⟨b, off + k * 3 + 2, none⟩) hbl).trans g2
      obtain ⟨ai, ci, rfl⟩ := Row.sl hN
      have HN : Hid (Nums wr (.slice ai (el l k).2.2.length ci) (el l k).2.2) := hN.later hb.out (Nat.le_refl _)
      have HT : Hid (l.take (k + 1) = l.take k ++ [el l k]) := take_el (by rw [HLN.out]; exact hlt)
      have HOk := hidP (HO.out k hlt)
      have hk0 : (0 : Int) ≤ (k : Int) := by omega
      have hk1 : (k : Int) < (n : Int) := by omega
      have z0 : w.heap.size < wr.heap.size := by omega
      have z1 : w.heap.size + 1 < wr.heap.size := by omega
      have z2 : w.heap.size + 2 < wr.heap.size := by omega
      have z3 : w.heap.size + 1 + 1 < wr.heap.size := by omega
      clear hN
      generalize el l k = p at *
      obtain ⟨p0, p1, p2⟩ := p
      simp only at g0 g1 g2
      go_wp2_with (first
        | (go_at_call 15; (with_reducible refine (ints_own _ p2 _ (HN.out.later ((Below.refl _ _).alloc (Nat.le_refl _) _) (Nat.le_refl _)) HOk.out).mono ?_); rintro e w1 ⟨v1, rfl, ho, hb1⟩; obtain ⟨a1, k1, rfl⟩ := ho.sl; obtain ⟨s1, bM, hb2⟩ := boxed hb1 (by simp); have e0 := bM.cell 0 (v := .int .i64 p0) rfl; have e1 := bM.cell 1 (v := .int .i64 p1) rfl; have e2 := bM.cell 2 (v := .slice ai p2.length ci) rfl; have f2 := bM.fz 2; have d1 := low c3 hb2; have d0 := low c2 hb2; have fd := (Blk.below b2.out hb2 (by omega)).fz 1; have HB2 : Hid (Below wr.heap.size wr (w1.setCell ⟨wr.heap.size, 2, none⟩ (.slice a1 p2.length k1))) := (by show Below _ _ _; go_grown); have hM0 := hown.out.later HB2.out; have hN0 : OwnN (w1.setCell ⟨wr.heap.size, 2, none⟩ (.slice a1 p2.length k1)) (w.heap.size + 3) (.slice a1 p2.length k1) p2 := (ho.set (by show wr.heap.size < _; simp) _).mono (by simp; omega); obtain ⟨a3, k3, w3, r3, ho3, hb3⟩ := hM0.push (p0, p1, p2) hN0 (by rw [List.length_take, HLN.out]; omega) (by simp; omega); rw [show (l.take k).length = k by rw [List.length_take, HLN.out]; omega] at r3 ho3; simp only [World.size_setCell] at r3; have HR3 := hidP r3; have HO3 := hidP ho3; have HB3 := hidP (Below.trans (Below.mono HB2.out hs) hb3); have u0 := (Blk.below b2.out HB3.out (by omega)).cell 1 (v := .slice ar k cr) rfl; have u1 := (Blk.below b2.out HB3.out (by omega)).fz 1; have t1 : wr.heap.size < w1.heap.size := (by omega); have t2 : w.heap.size < w1.heap.size := (by omega); have t3 : w.heap.size + 1 < w1.heap.size := (by omega); have t4 : w.heap.size + 2 < w1.heap.size := (by omega); have t5 : w.heap.size + 1 + 1 < w1.heap.size := (by omega); clear ho hb1 bM hb2 hM0 hN0 r3 ho3 hb3)
        | (at_builtin; refine wpListAppendRun rfl _ _ 26 rfl rfl rfl HR3.out ?_; clear HR3))
      go_roundw
      case rel => exact ⟨k + 1, _, by omega, by go_num, by rw [HT.out]; exact HO3.out.set (by show w.heap.size + 2 < _; omega) _, (b0.out.below HB3.out (by omega)).setO _ _ (by show w.heap.size ≠ w.heap.size + 2; omega), (b1.out.below HB3.out (by omega)).setO _ _ (by show w.heap.size + 1 ≠ w.heap.size + 2; omega), (b2.out.below HB3.out (by omega)).set 1 _, by have := HB3.out.size; simp; omega, (hb.out.trans (HB3.out.mono (by omega))).setCell (by show _ ≤ w.heap.size + 2; omega) _⟩
      case measure => simp [intOf]; omega
    · have hke : k = n := by omega
      have HS : Hid (OwnM wr (w.heap.size + 3) (.slice ar n cr) l) := by
        show OwnM _ _ _ _
        have h := hown.out
        rw [hke] at h
        rwa [List.take_of_length_le (by rw [HLN.out]; omega)] at h
      rw [hke] at c3
      have hnl : ¬ (k : Int) < (n : Int) := by omega
      have e0 := b1.out.cell 0 (v := .int .i64 0) rfl
      have e1 := b1.out.cell 1 (v := .slice none 0 0) rfl
      have e2 := b1.out.fz 0
      have e3 := b1.out.fz 1
      clear hown
      go_wp2
      exact bodyPost_ret (v := .agg #[.int .i64 z, .slice ar n cr]) (by simp [results, Try.results14, go_sem, *]) rfl ⟨_, rfl, ⟨_, rfl, ((HS.out.set (by show w.heap.size + 1 < _; omega) _).set (by show w.heap.size + 1 < _; omega) _).marks⟩, by have h9 := hb.out; go_grown⟩
end Go.Proofs.Ytkeeiihaijhdoaa.Sm
