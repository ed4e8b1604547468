/- The keeping statements' two machines together: tropicakeep.together. -/
import Derived.Test.YthcfkiinjcbajaaJ16E
import Derived.Test.YthcfkiinjcbajaaJ16h
import Derived.Test.YthcfkiinjcbajaaJ16n
import Derived.Deep.DeepCutAuto
import Derived.BigQuiet
namespace Go.Proofs.Ythcfkiinjcbajaa.Wt
open Go.ChangeShapes Go.WideShapes Go.ChangeAt Go.RowKit
open Go.Proofs.Ythcfkiinjcbajaa.Pl
set_option linter.unusedVariables false
set_option linter.unusedSimpArgs false
/-- The sum of a block of numbers. -/
def tabSumT (w : World) (C : Nat) : Nat := match w.heap[C]? with
  | some (.cells cs _ _) => sumT (cs.toList.map intOf)
  | _ => 0
theorem tabSumT_of {w : World} {C : Nat} {cs : List Int} {t : TypeId} (h : Blk w C (cs.map (Value.int .i64)).toArray t) : tabSumT w C = sumT cs := by
  unfold tabSumT
  unfold Blk at h
  rw [h]
  show sumT (((cs.map (Value.int .i64)).toArray.toList).map intOf) = _
  congr 1
  rw [List.map_map]
  exact List.map_id'' (fun _ => rfl) cs
def boolNT (v : Value) : Nat := match v with | .bool true => 1 | _ => 0
/-- The boxes, the table. -/
structure TogW (w : World) (ca cb : Array Value) (vx vz : Value) (n : Nat) (wr : World) (cs : List Int) : Prop where
  a : Blk wr w.heap.size ca 24
  b : Blk wr (w.heap.size + 1) cb 24
  x : Blk wr (w.heap.size + 2) #[vx] 40
  z : Blk wr (w.heap.size + 3) #[vz] 40
  c : Blk wr (w.heap.size + 4) #[.int .i64 (n : Int)] 3
  t : Blk wr (w.heap.size + 5) (cs.map (Value.int .i64)).toArray 3
  bel : Below w.heap.size w wr
section
variable {w wr w2 : World} {ca cb : Array Value} {vx vz : Value} {n : Nat} {cs : List Int}
theorem TogW.set (h : TogW w ca cb vx vz n wr cs) (k : Nat) (v : Int) : TogW w ca cb vx vz n (wr.setCell ⟨w.heap.size + 5, k, none⟩ (.int .i64 v)) (cs.set k v) :=
  ⟨h.a.setO _ _ (by show w.heap.size ≠ w.heap.size + 5; omega), h.b.setO _ _ (by show w.heap.size + 1 ≠ w.heap.size + 5; omega), h.x.setO _ _ (by show w.heap.size + 2 ≠ w.heap.size + 5; omega), h.z.setO _ _ (by show w.heap.size + 3 ≠ w.heap.size + 5; omega), h.c.setO _ _ (by show w.heap.size + 4 ≠ w.heap.size + 5; omega), by have := h.t.set k (.int .i64 v); rwa [set_num] at this, h.bel.setCell (p := ⟨w.heap.size + 5, k, none⟩) (by show w.heap.size ≤ w.heap.size + 5; omega) _⟩
theorem TogW.later (h : TogW w ca cb vx vz n wr cs) (hb : Below wr.heap.size wr w2) : TogW w ca cb vx vz n w2 cs :=
  ⟨h.a.below hb h.a.lt, h.b.below hb h.b.lt, h.x.below hb h.x.lt, h.z.below hb h.z.lt, h.c.below hb h.c.lt, h.t.below hb h.t.lt, h.bel.trans (hb.mono h.bel.size)⟩
theorem TogW.drew (h : TogW w ca cb vx vz n wr cs) : TogW w ca cb vx vz n wr.drew cs := ⟨h.a.drew, h.b.drew, h.x.drew, h.z.drew, h.c.drew, h.t.drew, h.bel.drew⟩
theorem TogW.made (w : World) (ca cb : Array Value) (vx vz : Value) (n N : Nat) : TogW w ca cb vx vz n ((((((w.alloc (.cells ca 24)).alloc (.cells cb 24)).alloc (.cells #[vx] 40)).alloc (.cells #[vz] 40)).alloc (.cells #[.int .i64 (n : Int)] 3)).alloc (.cells ((List.replicate N (0 : Int)).map (Value.int .i64)).toArray 3)) (List.replicate N 0) := by
  have k0 := Blk.made w ca 24
  have k1 := Blk.made (w.alloc (.cells ca 24)) cb 24
  have k2 := Blk.made ((w.alloc (.cells ca 24)).alloc (.cells cb 24)) #[vx] 40
  have k3 := Blk.made (((w.alloc (.cells ca 24)).alloc (.cells cb 24)).alloc (.cells #[vx] 40)) #[vz] 40
  have k4 := Blk.made ((((w.alloc (.cells ca 24)).alloc (.cells cb 24)).alloc (.cells #[vx] 40)).alloc (.cells #[vz] 40)) #[.int .i64 (n : Int)] 3
  have k5 := Blk.made (((((w.alloc (.cells ca 24)).alloc (.cells cb 24)).alloc (.cells #[vx] 40)).alloc (.cells #[vz] 40)).alloc (.cells #[.int .i64 (n : Int)] 3)) ((List.replicate N (0 : Int)).map (Value.int .i64)).toArray 3
  simp only [World.size_alloc] at k1 k2 k3 k4 k5
  exact ⟨((((k0.alloc _).alloc _).alloc _).alloc _).alloc _, (((k1.alloc _).alloc _).alloc _).alloc _, ((k2.alloc _).alloc _).alloc _, (k3.alloc _).alloc _, k4.alloc _, k5, ((((((Below.refl _ _).alloc (Nat.le_refl _) _).alloc (by simp) _).alloc (by simp; omega) _).alloc (by simp; omega) _).alloc (by simp; omega) _).alloc (by simp; omega) _⟩
end
def HeldTg (B : Nat) (va vb : Value) (ba oa : Nat) (fa : Int) (bb ob : Nat) (fb : Int) (w : World) : Prop := w.cell? ⟨B, 1, none⟩ = some va ∧ w.cell? ⟨B + 1, 1, none⟩ = some vb ∧ w.cell? ⟨ba, oa, none⟩ = some (.int .i64 fa) ∧ w.cell? ⟨bb, ob, none⟩ = some (.int .i64 fb)
def HeldTs (B : Nat) (va vb vx vz : Value) (ba oa : Nat) (ua : Value) (bb ob : Nat) (ub : Value) (w : World) : Prop := w.cell? ⟨B, 1, none⟩ = some va ∧ w.cell? ⟨B + 1, 1, none⟩ = some vb ∧ w.cell? ⟨B + 2, 0, none⟩ = some vx ∧ w.cell? ⟨B + 3, 0, none⟩ = some vz ∧ w.cell? ⟨ba, oa + 1, none⟩ = some ua ∧ w.cell? ⟨bb, ob + 1, none⟩ = some ub
def HeldSd (b o : Nat) (d0 d1 d2 d3 d4 : Int) (w : World) : Prop := w.cell? ⟨b, o, none⟩ = some (.int .i64 d0) ∧ w.cell? ⟨b, o + 1, none⟩ = some (.int .i64 d1) ∧ w.cell? ⟨b, o + 2, none⟩ = some (.int .i64 d2) ∧ w.cell? ⟨b, o + 3, none⟩ = some (.int .i64 d3) ∧ w.cell? ⟨b, o + 4, none⟩ = some (.int .i64 d4)
def HeldSt (b o : Nat) (d0 d1 d2 d3 d4 : Int) (T ix : Nat) (y : Int) (w : World) : Prop := HeldSd b o d0 d1 d2 d3 d4 w ∧ w.cell? ⟨T, ix, none⟩ = some (.int .i64 y)
theorem HeldSd.later {b o : Nat} {d0 d1 d2 d3 d4 : Int} {w w' : World} (h : HeldSd b o d0 d1 d2 d3 d4 w) (hb : Below w.heap.size w w') (hl : b < w.heap.size) : HeldSd b o d0 d1 d2 d3 d4 w' :=
  ⟨(hb.cell (p := ⟨b, o, none⟩) hl).trans h.1, (hb.cell (p := ⟨b, o + 1, none⟩) hl).trans h.2.1, (hb.cell (p := ⟨b, o + 2, none⟩) hl).trans h.2.2.1, (hb.cell (p := ⟨b, o + 3, none⟩) hl).trans h.2.2.2.1, (hb.cell (p := ⟨b, o + 4, none⟩) hl).trans h.2.2.2.2⟩
theorem HeldTs.later {B : Nat} {va vb vx vz : Value} {ba oa : Nat} {ua : Value} {bb ob : Nat} {ub : Value} {w w' : World} (h : HeldTs B va vb vx vz ba oa ua bb ob ub w) (hb : Below w.heap.size w w') (hB : B + 3 < w.heap.size) (ha : ba < w.heap.size) (hc : bb < w.heap.size) : HeldTs B va vb vx vz ba oa ua bb ob ub w' :=
  ⟨(hb.cell (p := ⟨B, 1, none⟩) (by show B < _; omega)).trans h.1, (hb.cell (p := ⟨B + 1, 1, none⟩) (by show B + 1 < _; omega)).trans h.2.1, (hb.cell (p := ⟨B + 2, 0, none⟩) (by show B + 2 < _; omega)).trans h.2.2.1, (hb.cell (p := ⟨B + 3, 0, none⟩) hB).trans h.2.2.2.1, (hb.cell (p := ⟨ba, oa + 1, none⟩) ha).trans h.2.2.2.2.1, (hb.cell (p := ⟨bb, ob + 1, none⟩) hc).trans h.2.2.2.2.2⟩
theorem HeldSd.set {b o : Nat} {d0 d1 d2 d3 d4 : Int} {w : World} (h : HeldSd b o d0 d1 d2 d3 d4 w) {c k : Nat} (hb : b ≠ c) (u : Value) : HeldSd b o d0 d1 d2 d3 d4 (w.setCell ⟨c, k, none⟩ u) := by
  have key : ∀ (o : Nat) (x : Option Value), w.cell? ⟨b, o, none⟩ = x → (w.setCell ⟨c, k, none⟩ u).cell? ⟨b, o, none⟩ = x := fun o x hx => by
    have e : (w.setCell ⟨c, k, none⟩ u).heap[b]? = w.heap[b]? := Below.heap_setCell _ _ _ b hb
    rw [← hx]
    simp only [World.cell?]
    rw [e]
  exact ⟨key _ _ h.1, key _ _ h.2.1, key _ _ h.2.2.1, key _ _ h.2.2.2.1, key _ _ h.2.2.2.2⟩
theorem below_undrewX {w w' : World} {B : Nat} (h : Below B w.drew w') : Below B w w' := ⟨h.os, h.tape, h.output, h.size, h.block⟩
/-- Strides, one by one. -/
theorem OwnD.get {w : World} {base : Nat} {a : Option Addr} {m c : Nat} {L : List Sd} (h : OwnD w base (.slice a m c) L) {k : Nat} (hk : k < L.length) : ∃ b, a = some ⟨b, 0, none⟩ ∧ base ≤ b ∧ b < w.heap.size ∧ HeldSd b (k * 5) (el L k).1 (el L k).2.1 (el L k).2.2.1 (el L k).2.2.2.1 (el L k).2.2.2.2 w := by
  rcases h.2 with ⟨_, h0⟩ | ⟨g, cap, cur, hv, hg, hh, _⟩
  · exact absurd h0 (by omega)
  · injection hv with h1 _ _
    have hR : Row 5 encD w (.slice a m c) L := Row.ofOwn encD_len h rfl
    obtain ⟨b, off, cap', hv', hb, hc⟩ := Row.plain hR (fun x => by rw [encD_len]; omega) (by omega)
    injection hv' with h1' _ _
    rw [h1] at h1'
    injection h1' with h1'
    injection h1' with e1 e2 e3
    subst e1
    subst e2
    have e5 : 0 + k * 5 = k * 5 := Nat.zero_add _
    refine ⟨_, h1, hg, hb, ?_⟩
    rw [← e5]
    exact ⟨hc k hk 0 _ rfl, hc k hk 1 _ rfl, hc k hk 2 _ rfl, hc k hk 3 _ rfl, hc k hk 4 _ rfl⟩
theorem OwnD.set {w : World} {base : Nat} {v : Value} {L : List Sd} (h : OwnD w base v L) {a : Addr} (ha : a.block < base) (u : Value) : OwnD (w.setCell a u) base v L := ownsRow_setCell_below h ha u
theorem at_ix {w wr : World} {ca cb : Array Value} {ax az : Option Addr} {X Z cx cz n : Nat} {cs : List Int} (p q i j ix : Nat) (h : TogW w ca cb (.slice ax X cx) (.slice az Z cz) n wr cs) (ln : n ≤ 60) (lX : X ≤ 12) (lZ : Z ≤ 12) (lp : p ≤ 60) (lq : q ≤ 60) (li : i ≤ 12) (lj : j ≤ 12) (hix : ixS n X Z p q i j = ix) :
    Calls Try.prog 38 #[.agg #[.int .i64 (p : Int), .int .i64 (q : Int), .int .i64 (i : Int), .int .i64 (j : Int)], .pointer (some ⟨w.heap.size + 4, 0, none⟩), .pointer (some ⟨w.heap.size + 2, 0, none⟩), .pointer (some ⟨w.heap.size + 3, 0, none⟩)] wr fun e w' => e = .returned (.int .i64 (ix : Int)) ∧ Below wr.heap.size wr w' := by
  rw [← hix]
  exact at_any n X Z p q i j _ _ _ cx cz ax az wr h.c h.x h.z ln lX lZ lp lq li lj
theorem at_ix0 {w wr : World} {ca cb : Array Value} {ax az : Option Addr} {X Z cx cz n : Nat} {cs : List Int} (p q ix : Nat) (h : TogW w ca cb (.slice ax X cx) (.slice az Z cz) n wr cs) (ln : n ≤ 60) (lX : X ≤ 12) (lZ : Z ≤ 12) (lp : p ≤ 60) (lq : q ≤ 60) (hix : ixS n X Z p q 0 0 = ix) :
    Calls Try.prog 38 #[.agg #[.int .i64 (p : Int), .int .i64 (q : Int), .int .i64 0, .int .i64 0], .pointer (some ⟨w.heap.size + 4, 0, none⟩), .pointer (some ⟨w.heap.size + 2, 0, none⟩), .pointer (some ⟨w.heap.size + 3, 0, none⟩)] wr fun e w' => e = .returned (.int .i64 (ix : Int)) ∧ Below wr.heap.size wr w' :=
  at_ix p q 0 0 ix h ln lX lZ lp lq (Nat.zero_le _) (Nat.zero_le _) hix
theorem bothR (a b r : Int) (w : World) (ha : 0 ≤ a ∧ a ≤ 1000000001) (hb : 0 ≤ b ∧ b ≤ 1000000001) (hr : (if a = 1000000001 ∨ b = 1000000001 then 1000000001 else a + b) = r) :
    Calls Try.prog 20 #[.int .i64 a, .int .i64 b] w fun e w' => e = .returned (.int .i64 r) ∧ w = w' := by
  rw [← hr]
  exact both_any a b w ha hb
theorem ixS_q (n X Z p : Nat) : ixS n X Z p n 0 0 = ixS n X Z (p + 1) 0 0 0 := by simp [ixS, Nat.add_mul]
theorem ixS_i (n X Z p q : Nat) : ixS n X Z p q (X + 1) 0 = ixS n X Z p (q + 1) 0 0 := by
  simp only [ixS, Nat.add_zero]
  rw [show p * n + (q + 1) = (p * n + q) + 1 from rfl, Nat.succ_mul (p * n + q)]
theorem ixS_j (n X Z p q i : Nat) : ixS n X Z p q i (Z + 1) = ixS n X Z p q (i + 1) 0 := by
  simp only [ixS, Nat.add_zero]
  rw [show (p * n + q) * (X + 1) + (i + 1) = ((p * n + q) * (X + 1) + i) + 1 from rfl, Nat.succ_mul ((p * n + q) * (X + 1) + i)]
theorem ixS_s (n X Z p q i j : Nat) : ixS n X Z p q i (j + 1) = ixS n X Z p q i j + 1 := rfl
theorem EndS.of {ma mb : Mc} {x z : List Int} {cs cs' : List Int} {best : Int} {p q i j : Nat} (h : EndS ma mb x z cs best p q i j) (e : el cs' (ixT mb x z p q i j) = el cs (ixT mb x z p q i j)) : EndS ma mb x z cs' best p q i j := fun h1 h2 h3 h4 h5 => by
  rw [e] at h3 ⊢
  exact h h1 h2 h3 h4 h5
end Go.Proofs.Ythcfkiinjcbajaa.Wt
