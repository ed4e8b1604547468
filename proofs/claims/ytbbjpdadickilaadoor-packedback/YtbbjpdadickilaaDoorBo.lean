/- Lists of bytes of the call's own; what is answered of machines and of bytes. -/
import Derived.Test.YtbbjpdadickilaaDoorBy
import Derived.Test.YtbbjpdadickilaaDoorSg
import Derived.Test.YtbbjpdadickilaaDoorPlainUp
namespace Go.Proofs.YtbbjpdadickilaaDoor.Wt
open Go.ChangeShapes Go.WideShapes Go.ChangeAt Go.RowKit
open Go.Proofs.YtbbjpdadickilaaDoor.Pl
set_option linter.unusedVariables false
set_option linter.unusedSimpArgs false
theorem hid {p : Prop} (h : p) : Hid p := h
def OwnBys (w : World) (base : Nat) (v : Value) (l : List Int) : Prop := w.ownsRow base 5 1 v l.length (l.flatMap encU1)
theorem OwnBys.bys {w : World} {base : Nat} {v : Value} {l : List Int} (h : OwnBys w base v l) : Bys w v l := Row.ofOwn encU1_len h rfl
theorem OwnBys.later {w w' : World} {base : Nat} {v : Value} {l : List Int} (h : OwnBys w base v l) (hb : Below w.heap.size w w') : OwnBys w' base v l := ownBelow h hb
theorem OwnBys.sl {w : World} {base : Nat} {v : Value} {l : List Int} (h : OwnBys w base v l) : ∃ a n c, v = .slice a n c := by
  obtain ⟨a, c, hv⟩ := own_sl h
  exact ⟨a, _, c, hv⟩
theorem flat_u8 (l : List Int) : l.flatMap encU1 = l.map (Value.int .u8) := by
  induction l with
  | nil => rfl
  | cons a l ih => rw [List.flatMap_cons, ih]; rfl
theorem OwnBys.block {w : World} {g base : Nat} {ws : List Int} (h : Blk w g (ws.map (Value.int .u8)).toArray 5) (hb : base ≤ g) (hl : ws.length ≤ 1000000) : OwnBys w base (.slice (some ⟨g, 0, none⟩) ws.length ws.length) ws := by
  refine ⟨by simp [flat_u8], .inr ⟨g, ws.length, (ws.map (Value.int .u8)).toArray, rfl, hb, h, Nat.le_refl _, by unfold maxLen; omega, by simp, ?_⟩⟩
  rw [flat_u8, Nat.mul_one, List.take_of_length_le (by simp)]
/-- append(b, c...). -/
theorem OwnBys.app {w : World} {base : Nat} {v vx : Value} {l xs : List Int} (h : OwnBys w base v l) (hx : Bys w vx xs) (hl : l.length + xs.length ≤ 1000000) (hbase : base ≤ w.heap.size) :
    ∃ a c w', (Builtin.append_ #[25, 25] 25 #[v, vx]).run Tryd.prog w = .ok (.slice a (l.length + xs.length) c) w' ∧ OwnBys w' base (.slice a (l.length + xs.length) c) (l ++ xs) ∧ Below base w w' := by
  obtain ⟨i1, hi1, hy0, hy1, hy2⟩ := info_parts infoU8
  obtain ⟨v', w', hr, h2, h3, _⟩ := run_append_spot (P := Tryd.prog) encU1_len (by decide) encU1_one 25 25 base 5 i1 _ 1 Tryd.underlying25 hi1 hy0 hy1 hy2 rfl v l.length (l.flatMap encU1) h vx xs hx (by unfold maxLen; omega) (by omega) hbase
  obtain ⟨a, c, hv⟩ := own_sl h2
  subst hv
  refine ⟨a, c, w', hr, ?_, (Below.refl _ _).grown h3 (by omega) (fun k hk => (h.lt k hk).1)⟩
  unfold OwnBys
  rw [List.length_append, List.flatMap_append]
  exact h2
/-- The same, the length under a name of its own. -/
theorem OwnBys.appN {w : World} {base : Nat} {v vx : Value} {l xs : List Int} (h : OwnBys w base v l) (hx : Bys w vx xs) (hl : l.length + xs.length ≤ 1000000) (hbase : base ≤ w.heap.size) :
    ∃ n a c w', (Builtin.append_ #[25, 25] 25 #[v, vx]).run Tryd.prog w = .ok (.slice a n c) w' ∧ OwnBys w' base (.slice a n c) (l ++ xs) ∧ Below base w w' := by
  obtain ⟨a, c, w', h1, h2, h3⟩ := h.app hx hl hbase
  exact ⟨_, a, c, w', h1, h2, h3⟩
/-- What is answered of a machine. -/
def PackAns (m : Mc) (w : World) (e : Ending) (w' : World) : Prop := ∃ v, e = .returned (.tuple #[v, .int .i64 (faultM m)]) ∧ OwnBys w' w.heap.size v (if faultM m = 0 then packM m else []) ∧ Below w.heap.size w w'
/-- What is answered of bytes, in memory. -/
def UnpRes (l : List Int) (w : World) (e : Ending) (w' : World) : Prop := ∃ (v : Value) (m : Mc) (ec : Int), e = .returned (.tuple #[v, .int .i64 ec]) ∧ Mach w' v m ∧ UnpAns l m ec ∧ Below w.heap.size w w'
theorem mach_zeroU (w : World) : Mach w (.agg #[.int .i64 0, .slice none 0 0]) (0, []) := ⟨_, rfl, (OwnSts.nil w 0).sts⟩
theorem bys_pre {w : World} {a : Option Addr} {cap : Nat} {l : List Int} (h : Bys w (.slice a l.length cap) l) (k : Nat) (hk : k ≤ l.length) (hpos : 0 < l.length) : Bys w (.slice a k cap) (l.take k) := by
  obtain ⟨b, off, cap', hv, hb, hc⟩ := Row.plain h (fun x => by simp [encU1]) hpos
  injection hv with h1 _ h3
  subst h1 h3
  refine .inr ⟨⟨b, off, none⟩, cap, by rw [List.length_take, Nat.min_eq_left hk], fun j hj i u hu => ?_⟩
  rw [List.length_take] at hj
  rw [el_take (by omega)] at hu
  have := hc j (by omega) i u hu
  rw [Addr.add_lit, ← Nat.add_assoc]
  exact this
/-- append(arcs, c), the arcs the call's own. -/
theorem arc_push {W : World} {base : Nat} {v : Value} {ar : List Ar} (h : W.ownsRow base 52 4 v ar.length (ar.flatMap encA)) (c : Ar) (hl : ar.length ≤ 100000) (hbase : base ≤ W.heap.size) :
    ∃ a k w', (Builtin.append_ #[48, 48] 48 #[v, .slice (some ⟨W.heap.size, 0, none⟩) 1 1]).run Tryd.prog (W.alloc (.cells #[.int .i64 c.1, .int .i64 c.2.1, .int .i64 c.2.2.1, .int .i64 c.2.2.2] 52)) = .ok (.slice a (ar.length + 1) k) w' ∧ w'.ownsRow base 52 4 (.slice a (ar.length + 1) k) (ar ++ [c]).length ((ar ++ [c]).flatMap encA) ∧ Below base W w' := by
  obtain ⟨i1, hi1, hy0, hy1, hy2⟩ := info_parts infoArc
  have hB : Below W.heap.size W (W.alloc (.cells #[.int .i64 c.1, .int .i64 c.2.1, .int .i64 c.2.2.1, .int .i64 c.2.2.2] 52)) := (Below.refl _ _).alloc (Nat.le_refl _) _
  have hrow : Row 4 encA (W.alloc (.cells #[.int .i64 c.1, .int .i64 c.2.1, .int .i64 c.2.2.1, .int .i64 c.2.2.2] 52)) (.slice (some ⟨W.heap.size, 0, none⟩) 1 1) [c] := oneRow (enc := encA) W c rfl 52
  obtain ⟨v4, w4, r4, h4, g4, _⟩ := run_append_spot (P := Tryd.prog) encA_len (by decide) encA_one 48 48 base 52 i1 _ 32 Tryd.underlying48 hi1 hy0 hy1 hy2 rfl _ ar.length (ar.flatMap encA) (ownBelow h hB) _ [c] hrow (by simp; unfold maxLen; omega) (by simp; omega) (by simp; omega)
  obtain ⟨a, k, hv⟩ := own_sl h4
  subst hv
  refine ⟨a, k, w4, r4, by rw [List.length_append, List.flatMap_append]; exact h4, (hB.mono hbase).trans ((Below.refl _ _).grown g4 (by simp; omega) (fun k hk => (h.lt k hk).1))⟩
theorem grownB {w w' : World} (hb : Below w.heap.size w w') : w.grownBy w' none := ⟨hb.os, hb.tape, hb.output, hb.size, fun k hk _ => hb.block k hk⟩
def HeldF (sb : Nat) (va : Value) (w : World) : Prop := w.cell? ⟨sb, 1, none⟩ = some va ∧ True
end Go.Proofs.YtbbjpdadickilaaDoor.Wt
