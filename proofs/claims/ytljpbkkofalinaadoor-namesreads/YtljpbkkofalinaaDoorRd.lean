/- What Read answers: the table that its lines name, if Show makes that very text of it. -/
import Derived.Test.YtljpbkkofalinaaDoorLi
import Derived.Test.YtljpbkkofalinaaDoorNa
import Derived.Test.YtljpbkkofalinaaDoorSw
import Derived.Maps.AppendAt
namespace Go.Proofs.YtljpbkkofalinaaDoor.Wt
open Go.ChangeShapes Go.WideShapes Go.ChangeAt Go.RowKit Go.Shelf
open Go.Proofs.YtljpbkkofalinaaDoor.Pl
set_option linter.unusedVariables false
attribute [local go_sem] Oper.semAt_some
def nsOf (pre : List Ln) : List Nm := pre.filterMap fun x => parseL (lnL x)
def allOk (pre : List Ln) : Prop := ∀ x ∈ pre, parseL (lnL x) ≠ none
theorem nsOf_snoc {pre : List Ln} {x : Ln} {p : Nm} (h : parseL (lnL x) = some p) : nsOf (pre ++ [x]) = nsOf pre ++ [p] := by simp [nsOf, h]
theorem allOk_snoc {pre : List Ln} {x : Ln} {p : Nm} (h : parseL (lnL x) = some p) (ha : allOk pre) : allOk (pre ++ [x]) := by
  intro y hy
  rcases List.mem_append.1 hy with g | g
  · exact ha y g
  · simp at g; subst g; rw [h]; simp
theorem nsOf_le (pre : List Ln) : (nsOf pre).length ≤ pre.length := List.length_filterMap_le _ _
/-- What the call's own variables hold between two rounds. -/
def RdI (w : World) (pre : List Ln) (W : World) : Prop :=
  ((∃ v, Boxed W (w.heap.size + 1 + 1) 22 v ∧ W.ownsRow w.heap.size 36 2 v (nsOf pre).length (cellsOfNames (nsOf pre)) ∧ allOk pre) ∧
    Boxed W w.heap.size 22 (.slice none 0 0) ∧ Boxed W (w.heap.size + 1) 24 (.int .i64 0)) ∧ Below w.heap.size w W
def RdX (w : World) (c : Code) (pre : List Ln) (W : World) : Prop :=
  ((c = .ret ∧ ∃ x ∈ pre, parseL (lnL x) = none) ∧ Boxed W w.heap.size 22 (.slice none 0 0) ∧ Boxed W (w.heap.size + 1) 24 (.int .i64 3)) ∧ Below w.heap.size w W
theorem rdI_own (w : World) (B : Nat) (hB : w.heap.size ≤ B) : OwnFrom B (RdI w) :=
  OwnFrom.and (Own.from (fun s X Y row hs hg hr => ⟨holdsRow_own w.heap.size (w.heap.size + 1 + 1) 22 36 2 (fun pre => (nsOf pre).length) (fun pre => cellsOfNames (nsOf pre)) (fun pre v => allOk pre) s X Y row hs.1 hg hr,
    boxed_own w.heap.size 22 (fun _ : List Ln => .slice none 0 0) s X Y row hs.2.1 hg hr, boxed_own (w.heap.size + 1) 24 (fun _ : List Ln => .int .i64 0) s X Y row hs.2.2 hg hr⟩) _) (ownFrom_below (Nat.le_refl _) hB)
theorem rdX_own (w : World) (B : Nat) (hB : w.heap.size ≤ B) (c : Code) : OwnFrom B (RdX w c) :=
  OwnFrom.and (Own.from (fun s X Y row hs hg hr => ⟨hs.1, boxed_own w.heap.size 22 (fun _ : List Ln => .slice none 0 0) s X Y row hs.2.1 hg hr, boxed_own (w.heap.size + 1) 24 (fun _ : List Ln => .int .i64 3) s X Y row hs.2.2 hg hr⟩) _) (ownFrom_below (Nat.le_refl _) hB)
theorem grown_of {W W' : World} (h : Below W.heap.size W W') : W.grownBy W' none := ⟨h.os, h.tape, h.output, h.size, fun k hk _ => h.block k hk⟩
theorem keeps_of {W W' : World} (h : Below W.heap.size W W') : KeepsOthers W W' := KeepsOthers.of_grownBy (grown_of h) (fun j o e => by cases e)
theorem row_later {W W' : World} {B : Nat} {e : TypeId} {sz : Nat} {v : Value} {n : Nat} {xs : List Value} (h : W.ownsRow B e sz v n xs) (hb : Below W.heap.size W W') : W'.ownsRow B e sz v n xs :=
  h.kept (row := none) (grown_of hb) (by
    cases hv : v.ownBlock with
    | none => exact .inl rfl
    | some k => exact .inr (by simp))
theorem two_cells (W : World) (p : Nm) (c : Nat) (hc : c = W.heap.size) : ∀ (j : Nat) (u : Value), (cellsOfNames [p])[j]? = some u → (W.alloc (.cells #[.string p.1, .int .i64 p.2] 36)).cell? ((⟨c, 0, none⟩ : Addr).add j) = some u := by
  subst hc
  intro j u hj
  match j with
  | 0 => simp [cellsOfNames] at hj; subst hj; simp [Addr.add]
  | 1 => simp [cellsOfNames] at hj; subst hj; simp [Addr.add]
  | j + 2 => simp [cellsOfNames] at hj
theorem two_one (p : Nm) : ∀ u ∈ cellsOfNames [p], u.oneCell' = true := by
  intro u hu
  simp [cellsOfNames] at hu
  rcases hu with rfl | rfl <;> rfl
theorem ne_list {a b : ByteArray} (h : ¬ a = b) : (a.toList == b.toList) = false := by
  rcases bool_cases (a.toList == b.toList) with g | g
  · rw [← beq_toListBytes] at g; exact absurd ((Go.MapKept.bytes_beq a b).1 g) h
  · exact g
theorem nsOf_map (ys : List Ln) : nsOf ys = (ys.map lnL).filterMap parseL := by simp [nsOf, List.filterMap_map, Function.comp_def]
theorem boxed_put {W : World} {D B : Nat} {t : TypeId} {v : Value} (h : Boxed W B t v) (hK : W.heap[D]? = some (.deferred (some []))) : Boxed (W.putObj D (.deferred none)) B t v :=
  boxed_own B t (fun _ : Unit => v) () W _ _ h (grownBy_putObj' W D _) (fun r e => by cases e; exact ⟨_, hK, rfl⟩)
abbrev rdW (w : World) (s : ByteArray) : World := (((w.alloc (.cells #[.slice none 0 0] 22)).alloc (.cells #[.int .i64 0] 24)).alloc (.cells #[.slice none 0 0] 22)).alloc (.cells #[.string s] 9)
theorem rd_start (w : World) (s : ByteArray) : RdI w [] (rdW w s) := by
  have b0 := (((Boxed.new w 22 (.slice none 0 0)).alloc (.cells #[.int .i64 0] 24)).alloc (.cells #[.slice none 0 0] 22)).alloc (.cells #[.string s] 9)
  have b1 := ((Boxed.new (w.alloc (.cells #[.slice none 0 0] 22)) 24 (.int .i64 0)).alloc (.cells #[.slice none 0 0] 22)).alloc (.cells #[.string s] 9)
  have b2 := (Boxed.new ((w.alloc (.cells #[.slice none 0 0] 22)).alloc (.cells #[.int .i64 0] 24)) 22 (.slice none 0 0)).alloc (.cells #[.string s] 9)
  simp only [World.size_alloc] at b1 b2
  refine ⟨⟨⟨_, b2, World.ownsRow_nil _ _ _ _, fun x hx => by simp at hx⟩, b0, b1⟩, ?_⟩
  exact ((((Below.refl _ w).alloc (Nat.le_refl _) _).alloc (by simp) _).alloc (by simp; omega) _).alloc (by simp; omega) _
/-- The answer, whichever it is. -/
def ReadR (s : ByteArray) (w : World) (e : Ending) (w' : World) : Prop :=
  Below w.heap.size w w' ∧
  ((∃ ns v, e = .returned (.tuple #[v, .int .i64 0]) ∧ Nms w' v ns ∧ faultR ns = 0 ∧ showS ns = s) ∨
   (e = .returned (.tuple #[.slice none 0 0, .int .i64 3]) ∧ ∀ ys : List Ln, ys.map lnL = linesL s.data.toList → allOk ys → ¬ (faultR (nsOf ys) = 0 ∧ showS (nsOf ys) = s)))
set_option maxRecDepth 100000 in
set_option maxHeartbeats 4000000 in
theorem read_core (s : ByteArray) (w : World) (hs : s.size ≤ 20000) (ht : Tab w) (he : Errs w) :
    CallsIn Fence.wide 10 Tryd.prog 10 #[.string s] w fun e w' => ReadR s w e w' := by
  obtain ⟨i0, hi, hz0, hz1, hz2⟩ := info_parts infoName
  have hlen : ¬ (20000 : Int) < (s.size : Int) := by omega
  have hnot : ∀ (x : Bool) (w : World), (Op.unary .not (.bool x)).run Tryd.prog w = .ok (.bool (!x)) w := fun _ _ => rfl
  have hsl : s.data.toList.length = s.size := by simp
  have hNl := linesL_length s.data.toList
  refine callsIn_of_wp_marks Tryd.func10 rfl trivial ?_ rfl
  simp only [Tryd.ntmps10, List.size_toArray, List.length_cons, List.length_nil, Nat.reduceAdd, Nat.reduceSub, Array.replicate_succ, Array.replicate_zero, List.push_toArray, List.append_toArray, List.nil_append, List.cons_append]
  gi_wp2_with (first | (refine ⟨trivial, ?_⟩; gi_at_call 19; refine (callsIn_wide.2 (lines_any _ _)).mono ?_; rintro e w' ⟨rfl, rfl⟩))
  have hcS : (rdW w s).cell? ⟨w.heap.size + 1 + 1 + 1, 0, none⟩ = some (.string s) := by
    have h := (Boxed.new (((w.alloc (.cells #[.slice none 0 0] 22)).alloc (.cells #[.int .i64 0] 24)).alloc (.cells #[.slice none 0 0] 22)) 9 (.string s)).cell
    simpa only [World.size_alloc] using h
  refine wpIn_rangeFunc_ownG rfl (by decide) (gf := 30) (lb := #[.pointer (some ⟨w.heap.size + 1 + 1 + 1, 0, none⟩)]) rfl trivial (enters_of Tryd.func30 (by kernel_rfl) rfl)
    (lines_stops (10 - 1) (w.heap.size + 1 + 1 + 1) w.heap.size s hs (rdW w s) (by simp) hcS) belowK_t (belowK_b (by simp; omega)) (Below.refl _ _) (fun _ => rfl)
    (RdI w) (RdX w) (rdI_own w _ (by simp; omega)) (rdX_own w _ (by simp; omega)) (rd_start w s)
    (fun x => { tmps := #[.string s, undef, .pointer (some ⟨w.heap.size, 0, none⟩), .pointer (some ⟨w.heap.size + 1, 0, none⟩), .pointer (some ⟨w.heap.size + 1 + 1, 0, none⟩), .string x.1, undef, undef, undef, undef, .string s, .int .i64 s.size, .bool false, .string s, .func (.func 30) #[] #[.pointer (some ⟨w.heap.size + 1 + 1 + 1, 0, none⟩)], .string x.1, undef, undef, undef, undef, undef, undef, undef, undef, undef, undef, undef, undef, undef, undef, undef, undef, undef, undef, undef, undef, undef, undef, undef, undef], defers := [] }) ?assign ?body ?done ?stop
  case assign =>
    intro l x W K hK
    gi_wp2
    exact hK
  case body =>
    rintro l pre x W ⟨⟨⟨v, hv, hrow, hok⟩, h0, h1⟩, hB⟩ hlt
    have hnl := nsOf_le pre
    have HE : Hid (Errs W) := he.later hB
    have hws := hB.size
    cases hp : parseL (lnL x) with
    | none =>
      gi_wp2_with (first | (refine ⟨trivial, ?_⟩; gi_at_call 20; refine (CallsIn.inRound l (callsIn_wide.2 (nameOf_no x.1 _ x.2 HE.out hp))).mono ?_; rintro e w1 ⟨rfl, hb1⟩; have k0 := h0.kept (grown_of hb1) (by simp); have k1 := h1.kept (grown_of hb1) (by simp); have c0 := k0.cell; have c1 := k1.cell; have f0 := k0.frozen; have f1 := k1.frozen; have l0 := k0.lt; have l1 := k1.lt))
      refine ⟨((((keeps_of hb1).trans (KeepsOthers.setCell _ _ _)).trans (KeepsOthers.setCell _ _ _)).trans (KeepsOthers.alloc _ _)).from _, ⟨⟨rfl, x, by simp, hp⟩, ?_, ?_⟩, ?_⟩
      · exact ((k0.set _).other (by omega) _).alloc _
      · exact ((k1.other (by omega) _).set _).alloc _
      · exact (((hB.trans (hb1.mono hws)).setCell (p := ⟨w.heap.size, 0, none⟩) (Nat.le_refl _) _).setCell (p := ⟨w.heap.size + 1, 0, none⟩) (by simp) _).alloc (by simp; omega) _
    | some p =>
      have hkk : (nsOf pre).length + 1 ≤ 20000 := by omega
      gi_wp2_with (first
        | (refine ⟨trivial, ?_⟩; gi_at_call 20; refine (CallsIn.inRound l (callsIn_wide.2 (nameOf_ok x.1 _ x.2 p hp))).mono ?_; rintro e w1 ⟨rfl, hb1⟩; have k2 := hv.kept (grown_of hb1) (by simp); have c2 := k2.cell; have f2 := k2.frozen; have l2 := k2.lt; have hrow1 := row_later hrow hb1; have hs1 := hb1.size)
        | (gi_at_builtin; refine wpListIn_append_own _ rfl _ _ 22 rfl w.heap.size 36 i0 _ 2 24 Tryd.underlying22 hi hz0 hz1 hz2 rfl (by decide) _ _ _ rfl ((hrow1.alloc _).alloc _) ⟨w1.heap.size + 1, 0, none⟩ 1 1 (cellsOfNames [p]) rfl rfl (two_cells _ p _ (by simp)) (two_one p) (by unfold maxLen; omega) (by omega) (by simp; omega) ?_; intro v' w2 hown' hgrow _; obtain ⟨g', cap', rfl⟩ := ownsRow_succ hown'; obtain ⟨hv1, hv2, hr2, hk2, hb2⟩ := (k2.alloc (.cells #[.string p.1, .int .i64 p.2] 36)).appended (by decide) (hrow1.alloc _) (by simp; omega) (by omega) hown' hgrow; have d2 := hv1.cell; have e2 := hv1.frozen))
      have b0 := (((h0.kept (grown_of hb1) (by simp)).alloc (.cells #[.string p.1, .int .i64 p.2] 36)).alloc (.cells #[.string p.1, .int .i64 p.2] 36))
      have b1 := (((h1.kept (grown_of hb1) (by simp)).alloc (.cells #[.string p.1, .int .i64 p.2] 36)).alloc (.cells #[.string p.1, .int .i64 p.2] 36))
      have n0 := b0.not_row (e := 36) (by decide) ((hrow1.alloc _).alloc _)
      have n1 := b1.not_row (e := 36) (by decide) ((hrow1.alloc _).alloc _)
      have hbw : Below w.heap.size W (w2.setCell ⟨w.heap.size + 1 + 1, 0, none⟩ (.slice (some ⟨g', 0, none⟩) ((nsOf pre).length + 1) cap')) := (hb1.mono hws).trans (((Below.refl _ w1).alloc (by omega) _).trans hb2)
      exact ⟨(((keeps_of hb1).trans (KeepsOthers.alloc _ _)).trans hk2).from _, hbw, ⟨⟨_, hv2, by rw [nsOf_snoc hp]; simpa [cellsOfNames] using hr2, allOk_snoc hp hok⟩, (b0.kept hgrow n0).other (by omega) _, (b1.kept hgrow n1).other (by omega) _⟩, hB.trans hbw⟩
  case done =>
    rintro D ys W hD hys ⟨⟨⟨v, hv, hrow, hok⟩, h0, h1⟩, hB⟩ hK
    have hws := hB.size
    have hnl := nsOf_le ys
    have hyl : ys.length = (linesL s.data.toList).length := by rw [← hys]; simp
    have HN : Hid (Nms W v (nsOf ys)) := Nms.ofOwn hrow
    have HM : Hid ((nsOf ys).length ≤ maxLen) := by show _ ≤ _; unfold maxLen; omega
    have HT : Hid (Tab W) := ht.later hB
    have c2 := hv.cell
    obtain ⟨av, capv, rfl⟩ := HN.out.sl
    have hone : ∀ zs : List Ln, zs.map lnL = linesL s.data.toList → nsOf zs = nsOf ys := fun zs hz => by rw [nsOf_map, nsOf_map, hz, hys]
    by_cases hf : faultR (nsOf ys) = 0
    · by_cases hq : showS (nsOf ys) = s
      · have HQ : Hid (showS (nsOf ys) = s) := hq
        have m0 := h0.not_row (e := 36) (by decide) hrow
        have m1 := h1.not_row (e := 36) (by decide) hrow
        gi_wp2_with (first
          | (refine ⟨trivial, ?_⟩; gi_at_call 7; refine (callsIn_wide.2 (show_ok _ (nsOf ys) _ HN.out HM.out hf HT.out s HQ.out)).mono ?_; rintro e w1 ⟨rfl, hb1⟩; have k0 := h0.kept (grown_of hb1) (by simp); have k1 := h1.kept (grown_of hb1) (by simp); have k2 := hv.kept (grown_of hb1) (by simp); have c0 := k0.cell; have c1 := k1.cell; have d2 := k2.cell; have f0 := k0.frozen; have f1 := k1.frozen; have l0 := k0.lt; have l1 := k1.lt))
        have k0' := (k0.set (.slice av (nsOf ys).length capv)).other (B' := w.heap.size + 1) (by omega) (.int .i64 0)
        have k1' := (k1.other (B' := w.heap.size) (by omega) (.slice av (nsOf ys).length capv)).set (.int .i64 0)
        have hKf := ((KeepsOthers.setCell w1 ⟨w.heap.size, 0, none⟩ (.slice av (nsOf ys).length capv)).trans (KeepsOthers.setCell _ ⟨w.heap.size + 1, 0, none⟩ (.int .i64 0))).same D _ ((hb1.block D (lt_of_block hK)).trans hK) rfl
        have hrowf := ownsRow_putObj (ownsRow_setCell_other (ownsRow_setCell_other (row_later hrow hb1) (a := ⟨w.heap.size, 0, none⟩) (fun e => m0 e.symm) (.slice av (nsOf ys).length capv)) (a := ⟨w.heap.size + 1, 0, none⟩) (fun e => m1 e.symm) (.int .i64 0)) (.deferred none) hKf rfl
        refine ⟨by simp, .inl ⟨_, _, rfl, run_takeDeferred hKf, ?_⟩⟩
        have r0 := (boxed_put k0' hKf).cell
        have r1 := (boxed_put k1' hKf).cell
        refine ⟨.tuple #[.slice av (nsOf ys).length capv, .int .i64 0], ?_, (((hB.trans (hb1.mono hws)).setCell (p := ⟨w.heap.size, 0, none⟩) (Nat.le_refl _) _).setCell (p := ⟨w.heap.size + 1, 0, none⟩) (by simp) _).trans (belowK_b (w := w) (Nat.le_refl _) _ D _ _ (by simp at hD; omega) hKf rfl rfl), .inl ⟨nsOf ys, _, rfl, Nms.ofOwn hrowf, hf, hq⟩⟩
        simp [results, Tryd.results10, go_sem, r0, r1]
      · have hno : ∀ zs : List Ln, zs.map lnL = linesL s.data.toList → allOk zs → ¬ (faultR (nsOf zs) = 0 ∧ showS (nsOf zs) = s) := fun zs hz _ h => hq (by rw [← hone zs hz]; exact h.2)
        obtain ⟨t, htt⟩ : ∃ t, showS (nsOf ys) = t := ⟨_, rfl⟩
        have HQ : Hid (showS (nsOf ys) = t) := htt
        have hne := ne_list (a := t) (b := s) (by rw [← htt]; exact hq)
        have hne2 : (t.toList != s.toList) = true := by simp [bne, hne]
        clear htt
        gi_wp2_with (first
          | (refine ⟨trivial, ?_⟩; gi_at_call 7; refine (callsIn_wide.2 (show_ok _ (nsOf ys) _ HN.out HM.out hf HT.out t HQ.out)).mono ?_; rintro e w1 ⟨rfl, hb1⟩; have k0 := h0.kept (grown_of hb1) (by simp); have k1 := h1.kept (grown_of hb1) (by simp); have c0 := k0.cell; have c1 := k1.cell; have f0 := k0.frozen; have f1 := k1.frozen; have l0 := k0.lt; have l1 := k1.lt))
        have k0' := (k0.set (.slice none 0 0)).other (B' := w.heap.size + 1) (by omega) (.int .i64 3)
        have k1' := (k1.other (B' := w.heap.size) (by omega) (.slice none 0 0)).set (.int .i64 3)
        have hKf := ((KeepsOthers.setCell w1 ⟨w.heap.size, 0, none⟩ (.slice none 0 0)).trans (KeepsOthers.setCell _ ⟨w.heap.size + 1, 0, none⟩ (.int .i64 3))).same D _ ((hb1.block D (lt_of_block hK)).trans hK) rfl
        refine ⟨by simp, .inl ⟨_, _, rfl, run_takeDeferred hKf, ?_⟩⟩
        have r0 := (boxed_put k0' hKf).cell
        have r1 := (boxed_put k1' hKf).cell
        refine ⟨.tuple #[.slice none 0 0, .int .i64 3], ?_, (((hB.trans (hb1.mono hws)).setCell (p := ⟨w.heap.size, 0, none⟩) (Nat.le_refl _) _).setCell (p := ⟨w.heap.size + 1, 0, none⟩) (by simp) _).trans (belowK_b (w := w) (Nat.le_refl _) _ D _ _ (by simp at hD; omega) hKf rfl rfl), .inr ⟨rfl, hno⟩⟩
        simp [results, Tryd.results10, go_sem, r0, r1]
    · have hf' : (faultR (nsOf ys) != 0) = true := bne_iff_ne.2 hf
      have hno : ∀ zs : List Ln, zs.map lnL = linesL s.data.toList → allOk zs → ¬ (faultR (nsOf zs) = 0 ∧ showS (nsOf zs) = s) := fun zs hz _ h => hf (by rw [← hone zs hz]; exact h.1)
      gi_wp2_with (first
        | (refine ⟨trivial, ?_⟩; gi_at_call 7; refine (callsIn_wide.2 (show_bad _ (nsOf ys) _ HN.out HM.out _ rfl hf)).mono ?_; rintro e w1 ⟨rfl, hb1⟩; have k0 := h0.kept (grown_of hb1) (by simp); have k1 := h1.kept (grown_of hb1) (by simp); have c0 := k0.cell; have c1 := k1.cell; have f0 := k0.frozen; have f1 := k1.frozen; have l0 := k0.lt; have l1 := k1.lt))
      have k0' := (k0.set (.slice none 0 0)).other (B' := w.heap.size + 1) (by omega) (.int .i64 3)
      have k1' := (k1.other (B' := w.heap.size) (by omega) (.slice none 0 0)).set (.int .i64 3)
      have hKf := ((KeepsOthers.setCell w1 ⟨w.heap.size, 0, none⟩ (.slice none 0 0)).trans (KeepsOthers.setCell _ ⟨w.heap.size + 1, 0, none⟩ (.int .i64 3))).same D _ ((hb1.block D (lt_of_block hK)).trans hK) rfl
      refine ⟨by simp, .inl ⟨_, _, rfl, run_takeDeferred hKf, ?_⟩⟩
      have r0 := (boxed_put k0' hKf).cell
      have r1 := (boxed_put k1' hKf).cell
      refine ⟨.tuple #[.slice none 0 0, .int .i64 3], ?_, (((hB.trans (hb1.mono hws)).setCell (p := ⟨w.heap.size, 0, none⟩) (Nat.le_refl _) _).setCell (p := ⟨w.heap.size + 1, 0, none⟩) (by simp) _).trans (belowK_b (w := w) (Nat.le_refl _) _ D _ _ (by simp at hD; omega) hKf rfl rfl), .inr ⟨rfl, hno⟩⟩
      simp [results, Tryd.results10, go_sem, r0, r1]
  case stop =>
    rintro D c pre W hD hpre ⟨⟨⟨rfl, x, hx, hxn⟩, h0, h1⟩, hB⟩ hK
    have hno : ∀ zs : List Ln, zs.map lnL = linesL s.data.toList → allOk zs → ¬ (faultR (nsOf zs) = 0 ∧ showS (nsOf zs) = s) := fun zs hz ha _ => by
      have hm : lnL x ∈ linesL s.data.toList := hpre.subset (List.mem_map_of_mem hx)
      rw [← hz] at hm
      obtain ⟨y, hy, e⟩ := List.mem_map.1 hm
      exact ha y hy (by rw [e]; exact hxn)
    gi_wp2
    refine ⟨by simp, .inl ⟨_, _, rfl, run_takeDeferred hK, ?_⟩⟩
    have c0 := (boxed_put h0 hK).cell
    have c1 := (boxed_put h1 hK).cell
    refine ⟨.tuple #[.slice none 0 0, .int .i64 3], ?_, hB.trans (belowK_b (w := w) (Nat.le_refl _) W D _ _ (by simp at hD; omega) hK rfl rfl), .inr ⟨rfl, hno⟩⟩
    simp [results, Tryd.results10, go_sem, c0, c1]
end Go.Proofs.YtljpbkkofalinaaDoor.Wt
