/- Triples in memory; what is held while two machines are composed. -/
import Derived.Test.YthcfkiinjcbajaaHm
import Derived.Test.YthcfkiinjcbajaaJ16b
namespace Go.Proofs.Ythcfkiinjcbajaa.Wt
open Go.ChangeShapes Go.WideShapes Go.ChangeAt Go.RowKit
open Go.Proofs.Ythcfkiinjcbajaa.Pl
set_option linter.unusedVariables false
set_option linter.unusedSimpArgs false
/-- A triple's three cells. -/
def encT (t : Tr) : List Value := [.int .i64 t.1, .int .i64 t.2.1, .int .i64 t.2.2]
theorem encT_len (t : Tr) : (encT t).length = 3 := rfl
theorem encT_one (t : Tr) : ∀ u ∈ encT t, u.oneCell' = true := by
  intro u hu
  simp [encT] at hu
  rcases hu with rfl | rfl | rfl <;> rfl
theorem infoTrip : (Try.prog.info? 26).map (fun i => (i.zero, i.size, i.bytes)) = some (some (.agg #[.int .i64 0, .int .i64 0, .int .i64 0]), 3, 24) := by kernel_rfl
/-- Triples of the call's own. -/
def OwnT (w : World) (base : Nat) (v : Value) (L : List Tr) : Prop := w.ownsRow base 26 3 v L.length (L.flatMap encT)
theorem OwnT.later {w w' : World} {base : Nat} {v : Value} {L : List Tr} (h : OwnT w base v L) (hb : Below w.heap.size w w') : OwnT w' base v L := ownBelow h hb
theorem OwnT.sl {w : World} {base : Nat} {v : Value} {L : List Tr} (h : OwnT w base v L) : ∃ a cap, v = .slice a L.length cap := own_sl h
theorem OwnT.one (w : World) (t : Tr) {base : Nat} (hb : base ≤ w.heap.size) : OwnT (w.alloc (.cells (encT t).toArray 26)) base (.slice (some ⟨w.heap.size, 0, none⟩) 1 1) [t] := by
  refine ⟨rfl, .inr ⟨w.heap.size, 1, (encT t).toArray, rfl, hb, Blk.made _ _ _, by simp, by unfold maxLen; omega, rfl, ?_⟩⟩
  simp [encT]
theorem OwnT.get {w : World} {base : Nat} {v : Value} {L : List Tr} (h : OwnT w base v L) : ∃ a cap, v = .slice a L.length cap ∧ ∀ j, j < L.length → ∃ b off, a = some ⟨b, off, none⟩ ∧ b < w.heap.size ∧ w.cell? ⟨b, off + j * 3, none⟩ = some (.int .i64 (el L j).1) ∧ w.cell? ⟨b, off + j * 3 + 1, none⟩ = some (.int .i64 (el L j).2.1) ∧ w.cell? ⟨b, off + j * 3 + 2, none⟩ = some (.int .i64 (el L j).2.2) := by
  have hr : Row 3 encT w v L := Row.ofOwn encT_len h rfl
  by_cases hz : 0 < L.length
  · obtain ⟨b, off, cap, hv, hb, hc⟩ := hr.plain (fun x => by rw [encT_len]; omega) hz
    exact ⟨_, cap, hv, fun j hj => ⟨b, off, rfl, hb, hc j hj 0 _ rfl, hc j hj 1 _ rfl, hc j hj 2 _ rfl⟩⟩
  · obtain ⟨a, cap, hv⟩ := hr.sl
    exact ⟨a, cap, hv, fun j hj => absurd hj (by omega)⟩
theorem OwnT.cell {w : World} {base : Nat} {a : Option Addr} {n cap : Nat} {L : List Tr} (h : OwnT w base (.slice a n cap) L) {j : Nat} (hj : j < L.length) : ∃ b off, a = some ⟨b, off, none⟩ ∧ b < w.heap.size ∧ w.cell? ⟨b, off + j * 3, none⟩ = some (.int .i64 (el L j).1) ∧ w.cell? ⟨b, off + j * 3 + 1, none⟩ = some (.int .i64 (el L j).2.1) ∧ w.cell? ⟨b, off + j * 3 + 2, none⟩ = some (.int .i64 (el L j).2.2) := by
  obtain ⟨a', cap', hv, hc⟩ := h.get
  obtain ⟨rfl, _, _⟩ : a = a' ∧ n = L.length ∧ cap = cap' := by simpa using hv
  exact hc j hj
theorem OwnH.cell {w : World} {base : Nat} {a : Option Addr} {n cap : Nat} {hs : List Hp} (h : OwnH w base (.slice a n cap) hs) {j : Nat} (hj : j < hs.length) : ∃ b off, a = some ⟨b, off, none⟩ ∧ b < w.heap.size ∧ w.cell? ⟨b, off + j * 6, none⟩ = some (.int .i64 (el hs j).1) ∧ w.cell? ⟨b, off + j * 6 + 1, none⟩ = some (.int .i64 (el hs j).2.1) ∧ w.cell? ⟨b, off + j * 6 + 2, none⟩ = some (.int .i64 (el hs j).2.2.1) ∧ w.cell? ⟨b, off + j * 6 + 3, none⟩ = some (.int .i64 (el hs j).2.2.2.1) ∧ w.cell? ⟨b, off + j * 6 + 4, none⟩ = some (.int .i64 (el hs j).2.2.2.2.1) ∧ w.cell? ⟨b, off + j * 6 + 5, none⟩ = some (.int .i64 (el hs j).2.2.2.2.2) := by
  obtain ⟨a', cap', hv, hc⟩ := h.row.get
  obtain ⟨rfl, _, _⟩ : a = a' ∧ n = hs.length ∧ cap = cap' := by simpa using hv
  exact hc j hj
/-- Another row has grown: states, hops, arcs stay. -/
theorem OwnSts.keptT {w w' : World} {base b' : Nat} {v vl : Value} {l : List St} {L : List Tr} (h : OwnSts w base v l) (ht : OwnT w b' vl L) (hg : w.grownBy w' vl.ownBlock) : OwnSts w' base v l := by
  obtain ⟨vs, h1, h2, h3⟩ := h
  exact ⟨vs, h1.kept hg (own_apart h1 ht (by decide)), h2, fun j hj => ⟨(h3 j hj).1, (h3 j hj).2.kept hg (own_apart (h3 j hj).2 ht (by decide))⟩⟩
theorem OwnH.keptT {w w' : World} {base b' : Nat} {v vl : Value} {hs : List Hp} {L : List Tr} (h : OwnH w base v hs) (ht : OwnT w b' vl L) (hg : w.grownBy w' vl.ownBlock) : OwnH w' base v hs := World.ownsRow.kept h hg (own_apart h ht (by decide))
theorem gRow {a b c : World} {r r' : Option Nat} (h : a.grownBy b r) (k : b.grownBy c r') (hr : ∀ x, r' = some x → a.heap.size ≤ x) : a.grownBy c r :=
  ⟨k.os.trans h.os, k.tape.trans h.tape, k.output.trans h.output, Nat.le_trans h.size k.size, fun i hi hne => (k.block i (Nat.lt_of_lt_of_le hi h.size) (fun e => by have := hr i e.symm; omega)).trans (h.block i hi hne)⟩
/-- While a state's hops are gone through: since world w6 nothing old has changed but the triples' row r0; the state's box Sb, its arcs. -/
structure CmpIn (w6 wr : World) (r0 : Option Nat) (base Sb : Nat) (fin : Int) (va : Value) (ar : List Ar) (vl : Value) (L : List Tr) : Prop where
  grow : w6.grownBy wr r0
  near : Near w6 r0 vl
  trs : OwnT wr base vl L
  sb : Blk wr Sb #[.int .i64 fin, va] 54
  arcs : OwnArcs wr w6.heap.size va ar
  sbge : w6.heap.size ≤ Sb
variable {w6 wr : World} {r0 : Option Nat} {base Sb : Nat} {fin : Int} {va vl : Value} {ar : List Ar} {L : List Tr}
theorem CmpIn.later {w' : World} (h : CmpIn w6 wr r0 base Sb fin va ar vl L) (hb : Below wr.heap.size wr w') : CmpIn w6 w' r0 base Sb fin va ar vl L :=
  ⟨gTrans h.grow (gNew hb), h.near, h.trs.later hb, h.sb.below hb h.sb.lt, h.arcs.later hb, h.sbge⟩
theorem CmpIn.drew (h : CmpIn w6 wr r0 base Sb fin va ar vl L) : CmpIn w6 wr.drew r0 base Sb fin va ar vl L := h.later (Below.refl wr.heap.size wr).drew
theorem CmpIn.drewN (h : CmpIn w6 wr r0 base Sb fin va ar vl L) (q : Nat) : CmpIn w6 (wr.drewN q) r0 base Sb fin va ar vl L := h.later ⟨rfl, rfl, rfl, Nat.le_refl _, fun _ _ => rfl⟩
/-- l = append(l, t). -/
theorem CmpIn.pushT (h : CmpIn w6 wr r0 base Sb fin va ar vl L) (t : Tr) (hl : L.length ≤ 1000) (hb : base ≤ w6.heap.size) :
    ∃ v' w', (Builtin.append_ #[71, 71] 71 #[vl, .slice (some ⟨wr.heap.size, 0, none⟩) 1 1]).run Try.prog (wr.alloc (.cells (encT t).toArray 26)) = .ok v' w' ∧ CmpIn w6 w' r0 base Sb fin va ar v' (L ++ [t]) := by
  obtain ⟨i1, hi1, hy0, hy1, hy2⟩ := info_parts infoTrip
  have hs := h.grow.size
  have hA := h.later ((Below.refl wr.heap.size wr).alloc (Nat.le_refl _) (.cells (encT t).toArray 26))
  obtain ⟨v4, w4, r4, ho4, hg4, hn4⟩ := run_append_spot (P := Try.prog) (w := wr.alloc (.cells (encT t).toArray 26)) encT_len (by decide) encT_one 71 71 base 26 i1 _ 24 Try.underlying71 hi1 hy0 hy1 hy2 rfl _ L.length (L.flatMap encT) hA.trs _ [t] (oneRow (enc := encT) wr t rfl 26) (by simp; unfold maxLen; omega) (by simp; omega) (by simp; omega)
  have hT : OwnT w4 base v4 (L ++ [t]) := by unfold OwnT; rw [List.length_append, List.flatMap_append]; exact ho4
  exact ⟨v4, w4, r4, h.near.grown hA.grow hg4, h.near.next hA.grow hn4, hT, hA.sb.grown hg4 (own_ne hA.trs hA.sb (by decide)), World.ownsRow.kept hA.arcs hg4 (own_apart hA.arcs hA.trs (by decide)), h.sbge⟩
/-- s.Arcs = append(s.Arcs, c). -/
theorem CmpIn.pushA (h : CmpIn w6 wr r0 base Sb fin va ar vl L) (c : Ar) (hl : ar.length ≤ 100000) :
    ∃ v' w', (Builtin.append_ #[52, 52] 52 #[va, .slice (some ⟨wr.heap.size, 0, none⟩) 1 1]).run Try.prog (wr.alloc (.cells (encA c).toArray 51)) = .ok v' w' ∧ w6.grownBy w' r0 ∧ Blk w' Sb #[.int .i64 fin, va] 54 ∧ CmpIn w6 (w'.setCell ⟨Sb, 1, none⟩ v') r0 base Sb fin v' (ar ++ [c]) vl L := by
  obtain ⟨i1, hi1, hy0, hy1, hy2⟩ := info_parts infoArc
  have hs := h.grow.size
  have hA := h.later ((Below.refl wr.heap.size wr).alloc (Nat.le_refl _) (.cells (encA c).toArray 51))
  obtain ⟨v4, w4, r4, ho4, hg4, hn4⟩ := run_append_spot (P := Try.prog) (w := wr.alloc (.cells (encA c).toArray 51)) encA_len (by decide) encA_one 52 52 w6.heap.size 51 i1 _ 32 Try.underlying52 hi1 hy0 hy1 hy2 rfl _ ar.length (ar.flatMap encA) hA.arcs _ [c] (oneRow (enc := encA) wr c rfl 51) (by simp; unfold maxLen; omega) (by simp; omega) (by simp; omega)
  have hO : OwnArcs w4 w6.heap.size v4 (ar ++ [c]) := by unfold OwnArcs; rw [List.length_append, List.flatMap_append]; exact ho4
  have hG : w6.grownBy w4 r0 := gRow hA.grow hg4 (fun x hx => (hA.arcs.lt x hx).1)
  have hS : Blk w4 Sb #[.int .i64 fin, va] 54 := hA.sb.grown hg4 (own_ne hA.arcs hA.sb (by decide))
  have hT : OwnT w4 base vl L := World.ownsRow.kept hA.trs hg4 (own_apart hA.trs hA.arcs (by decide))
  refine ⟨v4, w4, r4, hG, hS, gSetNew hG h.sbge 1 _, h.near, World.ownsRow.kept hT (gSet w4 Sb 1 v4) (.inr (Ne.symm (own_ne hT hS (by decide)))), ?_, World.ownsRow.kept hO (gSet w4 Sb 1 v4) (.inr (Ne.symm (own_ne hO hS (by decide)))), h.sbge⟩
  have h9 := hS.set 1 v4
  exact h9
/-- The machines' boxes, the answer's, the composed machine's with its states, the triples. -/
structure CmpAt (w wr : World) (ca cb : Array Value) (M : Nat) (vm : Value) (S : List St) (vl : Value) (L : List Tr) : Prop where
  bxA : Blk wr w.heap.size ca 24
  bxB : Blk wr (w.heap.size + 1) cb 24
  bxR : Blk wr (w.heap.size + 2) #[.int .i64 0, .slice none 0 0] 24
  bxM : Blk wr M #[.int .i64 0, vm] 24
  sts : OwnSts wr (w.heap.size + 3) vm S
  trs : OwnT wr (w.heap.size + 3) vl L
  below : Below w.heap.size w wr
  sM : w.heap.size + 3 ≤ M
theorem CmpAt.later {w wr w' : World} {ca cb : Array Value} {M : Nat} {vm : Value} {S : List St} {vl : Value} {L : List Tr} (h : CmpAt w wr ca cb M vm S vl L) (hb : Below wr.heap.size wr w') : CmpAt w w' ca cb M vm S vl L :=
  ⟨h.bxA.below hb h.bxA.lt, h.bxB.below hb h.bxB.lt, h.bxR.below hb h.bxR.lt, h.bxM.below hb h.bxM.lt, h.sts.laterB hb, h.trs.later hb, h.below.trans (hb.mono h.below.size), h.sM⟩
theorem CmpAt.drew {w wr : World} {ca cb : Array Value} {M : Nat} {vm : Value} {S : List St} {vl : Value} {L : List Tr} (h : CmpAt w wr ca cb M vm S vl L) : CmpAt w wr.drew ca cb M vm S vl L := h.later (Below.refl wr.heap.size wr).drew
/-- A state begins. -/
theorem CmpAt.enter {w wr : World} {ca cb : Array Value} {M : Nat} {vm : Value} {S : List St} {vl : Value} {L : List Tr} (h : CmpAt w wr ca cb M vm S vl L) (fin : Int) : CmpIn wr (wr.alloc (.cells #[.int .i64 fin, .slice none 0 0] 54)) vl.ownBlock (w.heap.size + 3) wr.heap.size fin (.slice none 0 0) [] vl L :=
  ⟨gNew ((Below.refl _ _).alloc (Nat.le_refl _) _), .inl rfl, h.trs.later ((Below.refl _ _).alloc (Nat.le_refl _) _), Blk.made _ _ _, OwnArcs.nil _ _, Nat.le_refl _⟩
/-- Meanwhile the rest stays. -/
theorem CmpAt.meanwhile {w w6 wr : World} {ca cb : Array Value} {M : Nat} {vm : Value} {S : List St} {v6 vl : Value} {L6 L : List Tr} (h : CmpAt w w6 ca cb M vm S v6 L6) (hg : w6.grownBy wr v6.ownBlock) (ht : OwnT wr (w.heap.size + 3) vl L) : CmpAt w wr ca cb M vm S vl L := by
  have hs := h.below.size
  have hne : ∀ {b : Nat} {cs : Array Value}, Blk w6 b cs 24 → some b ≠ v6.ownBlock := fun hb => own_ne h.trs hb (by decide)
  exact ⟨h.bxA.grown hg (hne h.bxA), h.bxB.grown hg (hne h.bxB), h.bxR.grown hg (hne h.bxR), h.bxM.grown hg (hne h.bxM), h.sts.keptT h.trs hg, ht, h.below.trans (gBelow hg (fun k hk => by have := (h.trs.lt k hk).1; omega) hs), h.sM⟩
/-- m.States = append(m.States, s). -/
theorem CmpAt.push {w wr : World} {ca cb : Array Value} {M : Nat} {vm : Value} {S : List St} {vl : Value} {L : List Tr} (h : CmpAt w wr ca cb M vm S vl L) (s : St) {va : Value} (hva : OwnArcs wr (w.heap.size + 3) va s.2) (hl : S.length ≤ 100000) (hz : w.heap.size + 3 ≤ wr.heap.size) :
    ∃ v' w', (Builtin.append_ #[22, 22] 22 #[vm, .slice (some ⟨wr.heap.size, 0, none⟩) 1 1]).run Try.prog (wr.alloc (.cells #[.int .i64 s.1, va] 54)) = .ok v' w' ∧ Blk w' M #[.int .i64 0, vm] 24 ∧ CmpAt w (w'.setCell ⟨M, 1, none⟩ v') ca cb M v' (S ++ [s]) vl L := by
  obtain ⟨v6, w6, hr6, ho6, hb6, hg6⟩ := run_pushG (W := wr.alloc (.cells #[.int .i64 s.1, va] 54)) (w1 := wr) s S va vm (w.heap.size + 3) rfl rfl rfl rfl h.sts hva (by omega) hz
  have hA := h.later ((Below.refl wr.heap.size wr).alloc (Nat.le_refl _) (.cells #[.int .i64 s.1, va] 54))
  have hM6 : Blk w6 M #[.int .i64 0, vm] 24 := hA.bxM.grown hg6 (hA.sts.ne hA.bxM)
  have hne : ∀ {b : Nat}, b < w.heap.size + 3 → b ≠ M := fun hb => by have := h.sM; omega
  obtain ⟨vs, q1, q2, q3⟩ := hA.sts
  have hT6 : OwnT w6 (w.heap.size + 3) vl L := World.ownsRow.kept hA.trs hg6 (own_apart hA.trs q1 (by decide))
  refine ⟨v6, w6, hr6, hM6, (hA.bxA.grown hg6 (own_ne q1 hA.bxA (by decide))).setO _ _ (hne (by omega)), (hA.bxB.grown hg6 (own_ne q1 hA.bxB (by decide))).setO _ _ (hne (by omega)), (hA.bxR.grown hg6 (own_ne q1 hA.bxR (by decide))).setO _ _ (hne (by omega)), hM6.set 1 _, ho6.setM hM6 1 _, World.ownsRow.kept hT6 (gSet w6 M 1 v6) (.inr (Ne.symm (own_ne hT6 hM6 (by decide)))), h.below.trans ((hb6.mono (by omega)).setCell (p := ⟨M, 1, none⟩) (by have := h.sM; show w.heap.size ≤ M; omega) _), h.sM⟩
end Go.Proofs.Ythcfkiinjcbajaa.Wt
