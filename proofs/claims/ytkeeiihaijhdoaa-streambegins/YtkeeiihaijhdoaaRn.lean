/- Machines that grow by states, arcs of the call's own: what the reference and the program share. -/
import Derived.Test.YtkeeiihaijhdoaaPlainRa
import Derived.Test.YtkeeiihaijhdoaaSg
import Derived.Test.YtkeeiihaijhdoaaPg
namespace Go.Proofs.Ytkeeiihaijhdoaa.Wt
open Go.ChangeShapes Go.WideShapes Go.ChangeAt Go.RowKit
open Go.Proofs.Ytkeeiihaijhdoaa.Pl
set_option linter.unusedVariables false
set_option linter.unusedSimpArgs false
/-- Arcs of the call's own. -/
def OwnArcs (w : World) (base : Nat) (v : Value) (ar : List Ar) : Prop := w.ownsRow base 75 4 v ar.length (ar.flatMap encA)
theorem OwnArcs.nil (w : World) (base : Nat) : OwnArcs w base (.slice none 0 0) [] := World.ownsRow_nil _ _ _ _
theorem OwnArcs.made (w : World) (p : Ar) : OwnArcs (w.alloc (.cells #[.int .i64 p.1, .int .i64 p.2.1, .int .i64 p.2.2.1, .int .i64 p.2.2.2] 75)) w.heap.size (.slice (some ⟨w.heap.size, 0, none⟩) 1 1) [p] :=
  ⟨rfl, .inr ⟨w.heap.size, 1, #[.int .i64 p.1, .int .i64 p.2.1, .int .i64 p.2.2.1, .int .i64 p.2.2.2], rfl, Nat.le_refl _, Blk.made _ _ _, Nat.le_refl _, by decide, rfl, rfl⟩⟩
theorem OwnArcs.arcs {w : World} {base : Nat} {v : Value} {ar : List Ar} (h : OwnArcs w base v ar) : Arcs w v ar := Row.ofOwn encA_len h rfl
theorem OwnArcs.later {w w' : World} {base : Nat} {v : Value} {ar : List Ar} (h : OwnArcs w base v ar) (hb : Below w.heap.size w w') : OwnArcs w' base v ar := ownBelow h hb
theorem OwnArcs.sl {w : World} {base : Nat} {v : Value} {ar : List Ar} (h : OwnArcs w base v ar) : ∃ a c, v = .slice a ar.length c := own_sl h
theorem hidP {p : Prop} (h : p) : Hid p := h
/-- append(arcs, c), the arcs the call's own. -/
theorem OwnArcs.push {W : World} {base : Nat} {v : Value} {ar : List Ar} (h : OwnArcs W base v ar) (c : Ar) (hl : ar.length ≤ 100000) (hbase : base ≤ W.heap.size) :
    ∃ a k w', (Builtin.append_ #[56, 56] 56 #[v, .slice (some ⟨W.heap.size, 0, none⟩) 1 1]).run Try.prog (W.alloc (.cells #[.int .i64 c.1, .int .i64 c.2.1, .int .i64 c.2.2.1, .int .i64 c.2.2.2] 75)) = .ok (.slice a (ar.length + 1) k) w' ∧ OwnArcs w' base (.slice a (ar.length + 1) k) (ar ++ [c]) ∧ Below base W w' := by
  obtain ⟨i1, hi1, hy0, hy1, hy2⟩ := info_parts infoArc
  have hB : Below W.heap.size W (W.alloc (.cells #[.int .i64 c.1, .int .i64 c.2.1, .int .i64 c.2.2.1, .int .i64 c.2.2.2] 75)) := (Below.refl _ _).alloc (Nat.le_refl _) _
  have hrow : Row 4 encA (W.alloc (.cells #[.int .i64 c.1, .int .i64 c.2.1, .int .i64 c.2.2.1, .int .i64 c.2.2.2] 75)) (.slice (some ⟨W.heap.size, 0, none⟩) 1 1) [c] := oneRow (enc := encA) W c rfl 75
  obtain ⟨v4, w4, r4, h4, g4, _⟩ := run_append_spot (P := Try.prog) encA_len (by decide) encA_one 56 56 base 75 i1 _ 32 Try.underlying56 hi1 hy0 hy1 hy2 rfl _ ar.length (ar.flatMap encA) (ownBelow h hB) _ [c] hrow (by simp; unfold maxLen; omega) (by simp; omega) (by simp; omega)
  obtain ⟨a, k, hv⟩ := own_sl h4
  subst hv
  refine ⟨a, k, w4, r4, by unfold OwnArcs; rw [List.length_append, List.flatMap_append]; exact h4, (hB.mono hbase).trans ((Below.refl _ _).grown g4 (by simp; omega) (fun k hk => (h.lt k hk).1))⟩
theorem arcs_at {w : World} {a : Option Addr} {n c : Nat} {ar : List Ar} (h : Arcs w (.slice a n c) ar) {j : Nat} (hj : j < ar.length) :
    ∃ b off, a = some ⟨b, off, none⟩ ∧ b < w.heap.size ∧ w.cell? ⟨b, off + j * 4, none⟩ = some (.int .i64 (el ar j).1) ∧ w.cell? ⟨b, off + j * 4 + 1, none⟩ = some (.int .i64 (el ar j).2.1) ∧ w.cell? ⟨b, off + j * 4 + 2, none⟩ = some (.int .i64 (el ar j).2.2.1) ∧ w.cell? ⟨b, off + j * 4 + 3, none⟩ = some (.int .i64 (el ar j).2.2.2) := by
  obtain ⟨b, off, cap', hv, hb, hc⟩ := Row.plain h (fun x => by simp [encA]) (by omega)
  injection hv with h1 _ _
  exact ⟨b, off, h1, hb, hc j hj 0 _ rfl, hc j hj 1 _ rfl, hc j hj 2 _ rfl, hc j hj 3 _ rfl⟩
theorem el_mapA {l : List Ar} {k : Nat} (d : Int) (h : k < l.length) : (l.take (k + 1)).map (shA d) = (l.take k).map (shA d) ++ [shA d (el l k)] := by rw [take_el h]; simp
/-- A machine and an error are answered. -/
def RatRes (x : Mc) (ec : Int) (w : World) (e : Ending) (w' : World) : Prop := ∃ v, e = .returned (.tuple #[v, .int .i64 ec]) ∧ Mach w' v x ∧ Below w.heap.size w w'
theorem mach_zeroR (w : World) : Mach w (.agg #[.int .i64 0, .slice none 0 0]) (0, []) := ⟨_, rfl, (OwnSts.nil w 0).sts⟩
theorem OwnSts.ne {w : World} {base : Nat} {v : Value} {l : List St} (h : OwnSts w base v l) {b : Nat} {cs : Array Value} (hb : Blk w b cs 24) : some b ≠ v.ownBlock := by
  obtain ⟨vs, h1, _⟩ := h
  exact own_ne h1 hb (by decide)
theorem OwnSts.setM {w : World} {base : Nat} {v : Value} {l : List St} (h : OwnSts w base v l) {b : Nat} {cs : Array Value} (hb : Blk w b cs 24) (o : Nat) (u : Value) : OwnSts (w.setCell ⟨b, o, none⟩ u) base v l := by
  obtain ⟨vs, h1, h2, h3⟩ := h
  exact ⟨vs, h1.kept (gSet w b o u) (.inr (Ne.symm (own_ne h1 hb (by decide)))), h2, fun j hj => ⟨(h3 j hj).1, (h3 j hj).2.kept (gSet w b o u) (.inr (Ne.symm (own_ne (h3 j hj).2 hb (by decide))))⟩⟩
theorem OwnSts.laterB {w w' : World} {base : Nat} {v : Value} {l : List St} (h : OwnSts w base v l) (hb : Below w.heap.size w w') : OwnSts w' base v l := h.kept (grownBelow hb)
theorem OwnArcs.mono {w : World} {base base' : Nat} {v : Value} {ar : List Ar} (h : OwnArcs w base v ar) (hb : base' ≤ base) : OwnArcs w base' v ar := ownMono h hb
/-- One state, in a block of its own. -/
theorem OwnSts.one {w : World} {base : Nat} {v : Value} {f : Int} {ar : List Ar} (h : OwnArcs w base v ar) (hb : base ≤ w.heap.size) : OwnSts (w.alloc (.cells #[.int .i64 f, v] 58)) base (.slice (some ⟨w.heap.size, 0, none⟩) 1 1) [(f, ar)] := by
  refine ⟨[(f, v)], ⟨rfl, .inr ⟨w.heap.size, 1, #[.int .i64 f, v], rfl, hb, Blk.made _ _ _, Nat.le_refl _, by decide, rfl, rfl⟩⟩, rfl, fun j hj => ?_⟩
  obtain rfl : j = 0 := by simpa using hj
  exact ⟨rfl, OwnArcs.later h ((Below.refl _ _).alloc (Nat.le_refl _) _)⟩
/-- m.States = append(m.States, s). -/
theorem push_step {w5 : World} {B Mb : Nat} {vo va : Value} {z : Int} {l : List St} (s : St) (hO : OwnSts w5 B vo l) (hva : OwnArcs w5 B va s.2) (hM : Blk w5 Mb #[.int .i64 z, vo] 24) (hB : B ≤ w5.heap.size) (hBM : B ≤ Mb) (hl : l.length ≤ 100000) :
    ∃ a c w6, (Builtin.append_ #[22, 22] 22 #[vo, .slice (some ⟨w5.heap.size, 0, none⟩) 1 1]).run Try.prog (w5.alloc (.cells #[.int .i64 s.1, va] 58)) = .ok (.slice a (l.length + 1) c) w6 ∧ Blk w6 Mb #[.int .i64 z, vo] 24 ∧ Below B w5 w6 ∧ OwnSts (w6.setCell ⟨Mb, 1, none⟩ (.slice a (l.length + 1) c)) B (.slice a (l.length + 1) c) (l ++ [s]) ∧ Blk (w6.setCell ⟨Mb, 1, none⟩ (.slice a (l.length + 1) c)) Mb #[.int .i64 z, .slice a (l.length + 1) c] 24 ∧ Below B w5 (w6.setCell ⟨Mb, 1, none⟩ (.slice a (l.length + 1) c)) := by
  obtain ⟨v6, w6, hr6, ho6, hb6, hg6⟩ := run_pushG (W := w5.alloc (.cells #[.int .i64 s.1, va] 58)) (w1 := w5) s l va vo B rfl rfl rfl rfl hO hva (by omega) hB
  obtain ⟨a6, c6, hv6⟩ := ho6.sts.sl
  rw [show (l ++ [s]).length = l.length + 1 from by simp] at hv6
  subst hv6
  have hM6 : Blk w6 Mb #[.int .i64 z, vo] 24 := (hM.alloc _).grown hg6 (hO.ne hM)
  exact ⟨a6, c6, w6, hr6, hM6, hb6, ho6.setM hM6 1 _, hM6.set 1 _, hb6.setCell (p := ⟨Mb, 1, none⟩) hBM _⟩
def HeldP (mb : Nat) (vm : Value) (sb : Nat) (vs : Value) (b o : Nat) (f : Int) (va : Value) (w : World) : Prop := w.cell? ⟨mb, 1, none⟩ = some vm ∧ w.cell? ⟨sb, 1, none⟩ = some vs ∧ w.cell? ⟨b, o, none⟩ = some (.int .i64 f) ∧ w.cell? ⟨b, o + 1, none⟩ = some va
theorem HeldP.mk' {W : World} {mb sb b o : Nat} {vm vs va : Value} {z zs f : Int} (h1 : Blk W mb #[.int .i64 z, vm] 24) (h2 : Blk W sb #[.int .i64 zs, vs] 24) (h3 : W.cell? ⟨b, o, none⟩ = some (.int .i64 f)) (h4 : W.cell? ⟨b, o + 1, none⟩ = some va) : HeldP mb vm sb vs b o f va W := ⟨h1.cell 1 rfl, h2.cell 1 rfl, h3, h4⟩
/-- append(a, b...), both arcs. -/
theorem arcs_join {w5 : World} {B : Nat} {v1 v2 : Value} {L1 L2 : List Ar} (h1 : OwnArcs w5 B v1 L1) (h2 : Arcs w5 v2 L2) (hl : L1.length + L2.length ≤ 100000) (hB : B ≤ w5.heap.size) :
    ∃ a n c w6, (Builtin.append_ #[56, 56] 56 #[v1, v2]).run Try.prog w5 = .ok (.slice a n c) w6 ∧ OwnArcs w6 B (.slice a n c) (L1 ++ L2) ∧ w5.grownBy w6 v1.ownBlock ∧ Below B w5 w6 := by
  obtain ⟨i1, hi1, hy0, hy1, hy2⟩ := info_parts infoArc
  obtain ⟨v4, w4, r4, h4, g4, _⟩ := run_append_spot (P := Try.prog) encA_len (by decide) encA_one 56 56 B 75 i1 _ 32 Try.underlying56 hi1 hy0 hy1 hy2 rfl _ L1.length (L1.flatMap encA) h1 _ L2 h2 (by unfold maxLen; omega) (by omega) hB
  obtain ⟨a, k, hv⟩ := own_sl h4
  subst hv
  refine ⟨a, _, k, w4, r4, ?_, g4, (Below.refl _ _).grown g4 hB (fun k hk => (h1.lt k hk).1)⟩
  unfold OwnArcs
  rw [List.length_append, List.flatMap_append]
  exact h4
theorem OwnArcs.setS {w : World} {base : Nat} {v : Value} {ar : List Ar} (h : OwnArcs w base v ar) {b : Nat} {cs : Array Value} (hb : Blk w b cs 58) (o : Nat) (u : Value) : OwnArcs (w.setCell ⟨b, o, none⟩ u) base v ar :=
  World.ownsRow.kept h (gSet w b o u) (.inr (Ne.symm (own_ne h hb (by decide))))
def HeldQ (p : Nat) (x : Int) (sb : Nat) (vs : Value) (b o : Nat) (f : Int) (w : World) : Prop := w.cell? ⟨p, 0, none⟩ = some (.int .i64 x) ∧ w.cell? ⟨sb, 1, none⟩ = some vs ∧ w.cell? ⟨b, o, none⟩ = some (.int .i64 f)
def HeldZ (p q : Nat) (x y : Int) (w : World) : Prop := w.cell? ⟨p, 0, none⟩ = some (.int .i64 x) ∧ w.cell? ⟨q, 0, none⟩ = some (.int .i64 y)
theorem boxedThree {w w1 : World} {c0 c1 c2 : Array Value} {t0 t1 t2 : TypeId} {n : Nat} (hb : Below n (((w.alloc (.cells c0 t0)).alloc (.cells c1 t1)).alloc (.cells c2 t2)) w1) (hn : n = w.heap.size + 3) : w.heap.size + 3 ≤ w1.heap.size ∧ Blk w1 w.heap.size c0 t0 ∧ Blk w1 (w.heap.size + 1) c1 t1 ∧ Blk w1 (w.heap.size + 2) c2 t2 ∧ Below w.heap.size w w1 := by
  subst hn
  have h := hb.size
  simp only [World.size_alloc] at h
  have k1 := Blk.made (w.alloc (.cells c0 t0)) c1 t1
  have k2 := Blk.made ((w.alloc (.cells c0 t0)).alloc (.cells c1 t1)) c2 t2
  simp only [World.size_alloc] at k1 k2
  exact ⟨h, (((Blk.made w c0 t0).alloc _).alloc _).below hb (by omega), (k1.alloc _).below hb (by omega), k2.below hb (by omega), ((((Below.refl _ _).alloc (Nat.le_refl _) _).alloc (by simp) _).alloc (by simp; omega) _).trans (hb.mono (by omega))⟩
/-- What is known of each state of a machine that is right. -/
theorem right_states {m : Mc} (hr : faultM m = 0) : ∀ j, j < m.2.length → finB (el m.2 j).1 = true ∧ (el m.2 j).2.length ≤ 400 ∧ ∀ p ∈ (el m.2 j).2, 0 ≤ p.2.2.2 ∧ p.2.2.2 ≤ 1000 := fun j hj => by
  have h400 := (right_size (z := m.1) (l := m.2) hr).2
  have h60 := (right_size (z := m.1) (l := m.2) hr).1
  have h1 := arcN_take hj
  have h2 := arcN_takeR m.2 (j + 1)
  have h3 := (right_parts hr).2 (el m.2 j) (el_mem hj)
  refine ⟨stB_fin h3, by omega, fun p hp => ?_⟩
  simp only [stB, Bool.and_eq_true, List.all_eq_true] at h3
  have h4 := h3.2 p hp
  simp only [arcB, inB, Bool.and_eq_true, decide_eq_true_eq] at h4
  omega
theorem ratM_ok (a b x : Mc) : okM (ratM a b x) := by
  have hz : okM (0, []) := ⟨by simp, fun j hj => absurd hj (by simp)⟩
  unfold ratM fitM
  split
  · exact hz
  · split
    · exact hz
    · split
      · rename_i h
        simp only [sizeB, Bool.and_eq_true, decide_eq_true_eq] at h
        exact small_ok (by omega) (by omega)
      · exact hz
end Go.Proofs.Ytkeeiihaijhdoaa.Wt
