/- A table of rows of numbers, each row in a block of its own. Sets in memory; what is held while a machine is made certain. Small things for the walk that makes a machine certain. -/
import Derived.Test.YtfekmlblldhieaaDoorJ17j
import Derived.Test.YtfekmlblldhieaaDoorJ17d
import Derived.Test.YtfekmlblldhieaaDoorRn
import Derived.Test.YtfekmlblldhieaaDoorJ17b
import Derived.Test.YtfekmlblldhieaaDoorJ17f
namespace Go.Proofs.YtfekmlblldhieaaDoor.Wt
open Go.ChangeShapes Go.WideShapes Go.ChangeAt Go.RowKit
open Go.Proofs.YtfekmlblldhieaaDoor.Pl
set_option linter.unusedVariables false
set_option linter.unusedSimpArgs false
def encG (n : Nat) (g : Nat) : List Value := [.slice (some ⟨g, 0, none⟩) n n]
theorem encG_len (n g : Nat) : (encG n g).length = 1 := rfl
theorem encG_one (n g : Nat) : ∀ u ∈ encG n g, u.oneCell' = true := by
  intro u hu
  simp [encG] at hu
  subst hu
  rfl
theorem infoRow : (Tryd.prog.info? 34).map (fun i => (i.zero, i.size, i.bytes)) = some (some (.slice none 0 0), 1, 24) := by kernel_rfl
/-- The value v is the table d: rows of n numbers in the blocks gs, apart from each other. -/
def GridM (w : World) (base n : Nat) (v : Value) (gs : List Nat) (d : List (List Int)) : Prop :=
  gs.length = d.length ∧ w.ownsRow base 34 1 v gs.length (gs.flatMap (encG n)) ∧ (∀ j, j < gs.length → base ≤ el gs j ∧ (el d j).length = n ∧ Blk w (el gs j) ((el d j).map (Value.int .i64)).toArray 3) ∧ ∀ i j, i < gs.length → j < gs.length → i ≠ j → el gs i ≠ el gs j
theorem GridM.nil (w : World) (base n : Nat) : GridM w base n (.slice none 0 0) [] [] := ⟨rfl, World.ownsRow_nil _ _ _ _, fun j hj => absurd hj (by simp), fun i j hi => absurd hi (by simp)⟩
theorem GridM.later {w w' : World} {base n : Nat} {v : Value} {gs : List Nat} {d : List (List Int)} (h : GridM w base n v gs d) (hb : Below w.heap.size w w') : GridM w' base n v gs d := by
  obtain ⟨h1, h2, h3, h4⟩ := h
  exact ⟨h1, ownBelow h2 hb, fun j hj => ⟨(h3 j hj).1, (h3 j hj).2.1, (h3 j hj).2.2.below hb (h3 j hj).2.2.lt⟩, h4⟩
theorem GridM.sl {w : World} {base n : Nat} {v : Value} {gs : List Nat} {d : List (List Int)} (h : GridM w base n v gs d) : ∃ a c, v = .slice a d.length c := by
  obtain ⟨a, c, hv⟩ := own_sl h.2.1
  exact ⟨a, c, by rw [hv, h.1]⟩
theorem GridM.cells {w : World} {base n : Nat} {v : Value} {gs : List Nat} {d : List (List Int)} (h : GridM w base n v gs d) (hz : 0 < d.length) : ∃ G cap, v = .slice (some ⟨G, 0, none⟩) d.length cap ∧ base ≤ G ∧ G < w.heap.size ∧ ∀ j, j < d.length → w.cell? ⟨G, j, none⟩ = some (.slice (some ⟨el gs j, 0, none⟩) n n) := by
  obtain ⟨h1, h2, h3, h4⟩ := h
  have h2' := h2
  rcases h2.2 with ⟨_, h0⟩ | ⟨G, cap, cur, hv, hb, hG, _⟩
  · omega
  · refine ⟨G, cap, by rw [hv, h1], hb, lt_of_block hG, fun j hj => ?_⟩
    have h9 := h2'.cells (g := G) (by rw [hv]; rfl) j (.slice (some ⟨el gs j, 0, none⟩) n n) (by
      have := flat_at (encG_len n) gs j (by omega) 0 (by omega)
      rw [Nat.mul_one, Nat.add_zero] at this
      rw [this]; rfl)
    rw [Addr.add_lit, Nat.zero_add] at h9
    exact h9
theorem GridM.get {w : World} {base n : Nat} {v : Value} {gs : List Nat} {d : List (List Int)} (h : GridM w base n v gs d) {q p : Nat} (hq : q < d.length) (hp : p < n) : w.cell? ⟨el gs q, p, none⟩ = some (.int .i64 (el (el d q) p)) := by
  obtain ⟨h1, h2, h3, h4⟩ := h
  obtain ⟨_, hl, hb⟩ := h3 q (by omega)
  exact num_cell hb (by rw [hl]; exact hp)
theorem GridM.fz {w : World} {base n : Nat} {v : Value} {gs : List Nat} {d : List (List Int)} (h : GridM w base n v gs d) {q : Nat} (hq : q < d.length) (p : Nat) : w.frozen? ⟨el gs q, p, none⟩ = false := (h.2.2.1 q (by rw [h.1]; exact hq)).2.2.fz p
theorem GridM.set {w : World} {base n : Nat} {v : Value} {gs : List Nat} {d : List (List Int)} (h : GridM w base n v gs d) {q p : Nat} (hq : q < d.length) (hp : p < n) (x : Int) : GridM (w.setCell ⟨el gs q, p, none⟩ (.int .i64 x)) base n v gs (putD d q p x) := by
  obtain ⟨h1, h2, h3, h4⟩ := h
  have hqg : q < gs.length := by omega
  have hbq := (h3 q hqg).2.2
  refine ⟨by unfold putD; rw [List.length_set]; exact h1, h2.kept (gSet w (el gs q) p _) (.inr (Ne.symm (own_ne h2 hbq (by decide)))), fun j hj => ?_, h4⟩
  unfold putD
  rw [el_set (by omega)]
  by_cases e : q = j
  · subst e
    rw [if_pos rfl]
    refine ⟨(h3 q hj).1, by rw [List.length_set]; exact (h3 q hj).2.1, ?_⟩
    have h9 := hbq.set p (.int .i64 x)
    rw [set_num] at h9
    exact h9
  · rw [if_neg e]
    exact ⟨(h3 j hj).1, (h3 j hj).2.1, (h3 j hj).2.2.setO _ _ (h4 j q hj hqg (Ne.symm e))⟩
/-- append(d, row), the row newer than the table. -/
theorem GridM.push {w0 W : World} {base n g : Nat} {v : Value} {gs : List Nat} {d : List (List Int)} {row : List Int} (h : GridM w0 base n v gs d) (hb : Below w0.heap.size w0 W) (hbase : base ≤ w0.heap.size) (hg : w0.heap.size ≤ g) (hrow : Blk W g (row.map (Value.int .i64)).toArray 3) (hn : row.length = n) (hl : d.length ≤ 1000) :
    ∃ a c w', (Builtin.append_ #[57, 57] 57 #[v, .slice (some ⟨W.heap.size, 0, none⟩) 1 1]).run Tryd.prog (W.alloc (.cells #[.slice (some ⟨g, 0, none⟩) n n] 34)) = .ok (.slice a (d.length + 1) c) w' ∧ GridM w' base n (.slice a (d.length + 1) c) (gs ++ [g]) (d ++ [row]) ∧ Below base W w' := by
  obtain ⟨i1, hi1, hy0, hy1, hy2⟩ := info_parts infoRow
  have hW := h.later hb
  obtain ⟨h1, h2, h3, h4⟩ := hW
  have hA : Below W.heap.size W (W.alloc (.cells #[.slice (some ⟨g, 0, none⟩) n n] 34)) := (Below.refl _ _).alloc (Nat.le_refl _) _
  have hX : Row 1 (encG n) (W.alloc (.cells #[.slice (some ⟨g, 0, none⟩) n n] 34)) (.slice (some ⟨W.heap.size, 0, none⟩) 1 1) [g] := by
    refine .inr ⟨⟨W.heap.size, 0, none⟩, 1, rfl, fun j hj i u hu => ?_⟩
    obtain rfl : j = 0 := by simpa using hj
    rw [Addr.add_lit]
    refine (Blk.made W _ _).cell _ ?_
    rw [Nat.zero_mul, Nat.zero_add, Nat.zero_add]
    rw [el_zero] at hu
    simpa [encG] using hu
  obtain ⟨v4, w4, r4, o4, g4, _⟩ := run_append_spot (P := Tryd.prog) (encG_len n) (by decide) (encG_one n) 57 57 base 34 i1 _ 24 Tryd.underlying57 hi1 hy0 hy1 hy2 rfl v gs.length (gs.flatMap (encG n)) (ownBelow h2 hA) _ [g] hX (by simp; unfold maxLen; omega) (by simp; omega) (by have := hb.size; simp; omega)
  obtain ⟨a, c, hv⟩ := own_sl o4
  subst hv
  have hne : ∀ k cs, Blk W k cs 3 → some k ≠ v.ownBlock := fun k cs hk => own_ne h2 hk (by decide)
  refine ⟨a, c, w4, by rw [← h1]; exact r4, ⟨by simp [h1], ?_, fun j hj => ?_, fun i j hi hj hij => ?_⟩, (hA.mono (by have := hb.size; omega)).trans ((Below.refl _ _).grown g4 (by have := hb.size; simp; omega) (fun k hk => (h2.lt k hk).1))⟩
  · rw [List.length_append, List.flatMap_append, ← h1]
    exact o4
  · rw [List.length_append] at hj
    simp at hj
    by_cases e : j < gs.length
    · rw [el_left e, el_left (by omega)]
      exact ⟨(h3 j e).1, (h3 j e).2.1, ((h3 j e).2.2.alloc _).grown g4 (hne _ _ (h3 j e).2.2)⟩
    · obtain rfl : j = gs.length := by omega
      rw [el_last, h1, el_last]
      exact ⟨by omega, hn, (hrow.alloc _).grown g4 (hne _ _ hrow)⟩
  · have old : ∀ j, j < gs.length → el gs j < w0.heap.size := fun j hj => (h.2.2.1 j hj).2.2.lt
    rw [List.length_append] at hi hj
    simp at hi hj
    by_cases ei : i < gs.length
    · by_cases ej : j < gs.length
      · rw [el_left ei, el_left ej]; exact h4 i j ei ej hij
      · obtain rfl : j = gs.length := by omega
        rw [el_left ei, el_last]; have := old i ei; omega
    · obtain rfl : i = gs.length := by omega
      have ej : j < gs.length := by omega
      rw [el_last, el_left ej]; have := old j ej; omega
end Go.Proofs.YtfekmlblldhieaaDoor.Wt
namespace Go.Proofs.YtfekmlblldhieaaDoor.Wt
open Go.ChangeShapes Go.WideShapes Go.ChangeAt Go.RowKit
open Go.Proofs.YtfekmlblldhieaaDoor.Pl
set_option linter.unusedVariables false
set_option linter.unusedSimpArgs false
/-- append(d, row), the row apart from the table's: where the table lies behind it. -/
theorem GridM.pushN {W : World} {base n g : Nat} {v : Value} {gs : List Nat} {d : List (List Int)} {row : List Int} (h : GridM W base n v gs d) (hbase : base ≤ W.heap.size) (hgb : base ≤ g) (hgn : ∀ j, j < gs.length → el gs j ≠ g) (hrow : Blk W g (row.map (Value.int .i64)).toArray 3) (hn : row.length = n) (hl : d.length ≤ 1000) :
    ∃ v' w', (Builtin.append_ #[57, 57] 57 #[v, .slice (some ⟨W.heap.size, 0, none⟩) 1 1]).run Tryd.prog (W.alloc (.cells #[.slice (some ⟨g, 0, none⟩) n n] 34)) = .ok v' w' ∧ GridM w' base n v' (gs ++ [g]) (d ++ [row]) ∧ W.grownBy w' v.ownBlock ∧ Near W v.ownBlock v' := by
  obtain ⟨i1, hi1, hy0, hy1, hy2⟩ := info_parts infoRow
  obtain ⟨h1, h2, h3, h4⟩ := h
  have hA : Below W.heap.size W (W.alloc (.cells #[.slice (some ⟨g, 0, none⟩) n n] 34)) := (Below.refl _ _).alloc (Nat.le_refl _) _
  have hX : Row 1 (encG n) (W.alloc (.cells #[.slice (some ⟨g, 0, none⟩) n n] 34)) (.slice (some ⟨W.heap.size, 0, none⟩) 1 1) [g] := by
    refine .inr ⟨⟨W.heap.size, 0, none⟩, 1, rfl, fun j hj i u hu => ?_⟩
    obtain rfl : j = 0 := by simpa using hj
    rw [Addr.add_lit]
    refine (Blk.made W _ _).cell _ ?_
    rw [Nat.zero_mul, Nat.zero_add, Nat.zero_add]
    rw [el_zero] at hu
    simpa [encG] using hu
  obtain ⟨v4, w4, r4, o4, g4, n4⟩ := run_append_spot (P := Tryd.prog) (encG_len n) (by decide) (encG_one n) 57 57 base 34 i1 _ 24 Tryd.underlying57 hi1 hy0 hy1 hy2 rfl v gs.length (gs.flatMap (encG n)) (ownBelow h2 hA) _ [g] hX (by simp; unfold maxLen; omega) (by simp; omega) (by simp; omega)
  have hne : ∀ k cs, Blk W k cs 3 → some k ≠ v.ownBlock := fun k cs hk => own_ne h2 hk (by decide)
  have hG : W.grownBy w4 v.ownBlock := gTrans (gNew hA) g4
  have hN : Near W v.ownBlock v4 := by
    rcases n4 with e | ⟨b, e, hb⟩
    · exact .inl e
    · exact .inr ⟨b, e, by simp at hb; omega⟩
  refine ⟨v4, w4, r4, ⟨by simp [h1], ?_, fun j hj => ?_, fun i j hi hj hij => ?_⟩, hG, hN⟩
  · rw [List.length_append, List.flatMap_append]
    exact o4
  · rw [List.length_append] at hj
    simp at hj
    by_cases e : j < gs.length
    · rw [el_left e, el_left (by omega)]
      exact ⟨(h3 j e).1, (h3 j e).2.1, (h3 j e).2.2.grown hG (hne _ _ (h3 j e).2.2)⟩
    · obtain rfl : j = gs.length := by omega
      rw [el_last, h1, el_last]
      exact ⟨hgb, hn, hrow.grown hG (hne _ _ hrow)⟩
  · rw [List.length_append] at hi hj
    simp at hi hj
    by_cases ei : i < gs.length
    · by_cases ej : j < gs.length
      · rw [el_left ei, el_left ej]; exact h4 i j ei ej hij
      · obtain rfl : j = gs.length := by omega
        rw [el_left ei, el_last]; exact hgn i ei
    · obtain rfl : i = gs.length := by omega
      have ej : j < gs.length := by omega
      rw [el_last, el_left ej]; exact (hgn j ej).symm
/-- Another row has grown: the table stays. -/
theorem GridM.keptO {w w' : World} {base b' n : Nat} {e : TypeId} {s : Nat} {v vo : Value} {k : Nat} {ms : List Value} {gs : List Nat} {d : List (List Int)} (h : GridM w base n v gs d) (ho : w.ownsRow b' e s vo k ms) (he : e ≠ 34) (hi : e ≠ 3) (hg : w.grownBy w' vo.ownBlock) : GridM w' base n v gs d := by
  obtain ⟨h1, h2, h3, h4⟩ := h
  exact ⟨h1, h2.kept hg (own_apart h2 ho (Ne.symm he)), fun j hj => ⟨(h3 j hj).1, (h3 j hj).2.1, (h3 j hj).2.2.grown hg (own_ne ho (h3 j hj).2.2 hi)⟩, h4⟩
theorem GridM.setB {w : World} {base n : Nat} {v : Value} {gs : List Nat} {d : List (List Int)} (h : GridM w base n v gs d) {b : Nat} {cs : Array Value} {t : TypeId} (hb : Blk w b cs t) (ht : 34 ≠ t) (hi : ∀ j, j < gs.length → el gs j ≠ b) (o : Nat) (u : Value) : GridM (w.setCell ⟨b, o, none⟩ u) base n v gs d := by
  obtain ⟨h1, h2, h3, h4⟩ := h
  exact ⟨h1, h2.kept (gSet w b o u) (.inr (Ne.symm (own_ne h2 hb ht))), fun j hj => ⟨(h3 j hj).1, (h3 j hj).2.1, (h3 j hj).2.2.setO _ _ (hi j hj)⟩, h4⟩
theorem blk_ne {w : World} {b c : Nat} {x y : Array Value} {t u : TypeId} (h : Blk w b x t) (k : Blk w c y u) (e : t ≠ u) : b ≠ c := fun g => by
  subst g
  unfold Blk at h k
  rw [h] at k
  simp only [Option.some.injEq, Obj.cells.injEq] at k
  exact e k.2.1
theorem OwnSts.keptG {w w' : World} {base b' n : Nat} {v vl : Value} {l : List St} {gs : List Nat} {L : List (List Int)} (h : OwnSts w base v l) (ht : GridM w b' n vl gs L) (hg : w.grownBy w' vl.ownBlock) : OwnSts w' base v l := by
  obtain ⟨vs, h1, h2, h3⟩ := h
  exact ⟨vs, h1.kept hg (own_apart h1 ht.2.1 (by decide)), h2, fun j hj => ⟨(h3 j hj).1, (h3 j hj).2.kept hg (own_apart (h3 j hj).2 ht.2.1 (by decide))⟩⟩
theorem gRowC {a b c : World} {r r' : Option Nat} (h : a.grownBy b r) (k : b.grownBy c r') (hr : ∀ x, r' = some x → a.heap.size ≤ x) : a.grownBy c r :=
  ⟨k.os.trans h.os, k.tape.trans h.tape, k.output.trans h.output, Nat.le_trans h.size k.size, fun i hi hne => (k.block i (Nat.lt_of_lt_of_le hi h.size) (fun e => by have := hr i e.symm; omega)).trans (h.block i hi hne)⟩
/-- While a set's pairs are gone through: since world w6 nothing old has changed but the table's row r0, since world w7 nothing but that and the state's box Sb; its arcs. -/
structure CerIn (w6 w7 wr : World) (r0 : Option Nat) (base n Sb : Nat) (fin : Int) (va : Value) (ar : List Ar) (vl : Value) (gs : List Nat) (L : List (List Int)) : Prop where
  grow : w6.grownBy wr r0
  mid : ∀ k, w6.heap.size ≤ k → k < w7.heap.size → k ≠ Sb → wr.heap[k]? = w7.heap[k]?
  s67 : w6.heap.size ≤ w7.heap.size
  s7 : w7.heap.size ≤ wr.heap.size
  rl : ∀ x, r0 = some x → x < w6.heap.size
  near : Near w7 r0 vl
  grid : GridM wr base n vl gs L
  sb : Blk wr Sb #[.int .i64 fin, va] 46
  arcs : OwnArcs wr w7.heap.size va ar
  sbge : w6.heap.size ≤ Sb
section
variable {w6 w7 wr : World} {r0 : Option Nat} {base n Sb : Nat} {fin : Int} {va vl : Value} {ar : List Ar} {gs : List Nat} {L : List (List Int)}
theorem CerIn.later {w' : World} (h : CerIn w6 w7 wr r0 base n Sb fin va ar vl gs L) (hb : Below wr.heap.size wr w') : CerIn w6 w7 w' r0 base n Sb fin va ar vl gs L :=
  ⟨gTrans h.grow (gNew hb), fun k h1 h2 h3 => (hb.block k (Nat.lt_of_lt_of_le h2 h.s7)).trans (h.mid k h1 h2 h3), h.s67, Nat.le_trans h.s7 hb.size, h.rl, h.near, h.grid.later hb, h.sb.below hb h.sb.lt, h.arcs.later hb, h.sbge⟩
theorem CerIn.drew (h : CerIn w6 w7 wr r0 base n Sb fin va ar vl gs L) : CerIn w6 w7 wr.drew r0 base n Sb fin va ar vl gs L := h.later (Below.refl wr.heap.size wr).drew
theorem CerIn.drewN (h : CerIn w6 w7 wr r0 base n Sb fin va ar vl gs L) (q : Nat) : CerIn w6 w7 (wr.drewN q) r0 base n Sb fin va ar vl gs L := h.later ⟨rfl, rfl, rfl, Nat.le_refl _, fun _ _ => rfl⟩
/-- What lay between both worlds lies there. -/
theorem CerIn.cell (h : CerIn w6 w7 wr r0 base n Sb fin va ar vl gs L) {b o : Nat} {u : Value} (h1 : w6.heap.size ≤ b) (h2 : b < w7.heap.size) (h3 : b ≠ Sb) (hc : w7.cell? ⟨b, o, none⟩ = some u) : wr.cell? ⟨b, o, none⟩ = some u := by
  rw [← hc]
  simp only [World.cell?]
  rw [h.mid b h1 h2 h3]
theorem CerIn.near6 (h : CerIn w6 w7 wr r0 base n Sb fin va ar vl gs L) : Near w6 r0 vl := by
  rcases h.near with e | ⟨b, e, hb⟩
  · exact .inl e
  · exact .inr ⟨b, e, Nat.le_trans h.s67 hb⟩
/-- A cell of a block of numbers that is no row of the table. -/
theorem CerIn.setI (h : CerIn w6 w7 wr r0 base n Sb fin va ar vl gs L) {g : Nat} {cs : Array Value} (hg : Blk wr g cs 3) (hge : w7.heap.size ≤ g) (hgn : ∀ j, j < gs.length → el gs j ≠ g) (o : Nat) (u : Value) : CerIn w6 w7 (wr.setCell ⟨g, o, none⟩ u) r0 base n Sb fin va ar vl gs L :=
  ⟨gSetNew h.grow (Nat.le_trans h.s67 hge) o u, fun k h1 h2 h3 => (Below.heap_setCell wr _ _ k (by show k ≠ g; omega)).trans (h.mid k h1 h2 h3), h.s67, by simp [World.setCell]; exact h.s7, h.rl, h.near, h.grid.setB hg (by decide) hgn o u, h.sb.setO _ _ (blk_ne h.sb hg (by decide)), World.ownsRow.kept h.arcs (gSet wr g o u) (.inr (Ne.symm (own_ne h.arcs hg (by decide)))), h.sbge⟩
/-- sets = append(sets, next). -/
theorem CerIn.pushG (h : CerIn w6 w7 wr r0 base n Sb fin va ar vl gs L) {g : Nat} {row : List Int} (hrow : Blk wr g (row.map (Value.int .i64)).toArray 3) (hn : row.length = n) (hgb : base ≤ g) (hgn : ∀ j, j < gs.length → el gs j ≠ g) (hl : L.length ≤ 1000) (hb : base ≤ w6.heap.size) :
    ∃ v' w', (Builtin.append_ #[57, 57] 57 #[vl, .slice (some ⟨wr.heap.size, 0, none⟩) 1 1]).run Tryd.prog (wr.alloc (.cells #[.slice (some ⟨g, 0, none⟩) n n] 34)) = .ok v' w' ∧ CerIn w6 w7 w' r0 base n Sb fin va ar v' (gs ++ [g]) (L ++ [row]) := by
  have hs := h.grow.size
  obtain ⟨v4, w4, r4, o4, g4, n4⟩ := h.grid.pushN (by omega) hgb hgn hrow hn hl
  refine ⟨v4, w4, r4, h.near6.grown h.grow g4, fun k h1 h2 h3 => ?_, h.s67, Nat.le_trans h.s7 g4.size, h.rl, ?_, o4, h.sb.grown g4 (own_ne h.grid.2.1 h.sb (by decide)), World.ownsRow.kept h.arcs g4 (own_apart h.arcs h.grid.2.1 (by decide)), h.sbge⟩
  · refine (g4.block k (Nat.lt_of_lt_of_le h2 h.s7) ?_).trans (h.mid k h1 h2 h3)
    rcases h.near with e | ⟨b, e, hb⟩
    · rw [e]
      intro e2
      have := h.rl k e2.symm
      omega
    · rw [e]
      intro e2
      simp at e2
      omega
  · rcases n4 with e | ⟨b, e, hb⟩
    · rcases h.near with e2 | ⟨b2, e2, hb2⟩
      · exact .inl (e.trans e2)
      · exact .inr ⟨b2, e.trans e2, hb2⟩
    · exact .inr ⟨b, e, Nat.le_trans h.s7 hb⟩
/-- s.Arcs = append(s.Arcs, c). -/
theorem CerIn.pushA (h : CerIn w6 w7 wr r0 base n Sb fin va ar vl gs L) (c : Ar) (hl : ar.length ≤ 100000) :
    ∃ v' w', (Builtin.append_ #[44, 44] 44 #[va, .slice (some ⟨wr.heap.size, 0, none⟩) 1 1]).run Tryd.prog (wr.alloc (.cells (encA c).toArray 63)) = .ok v' w' ∧ (∀ k, w6.heap.size ≤ k → k < w7.heap.size → k ≠ Sb → w'.heap[k]? = w7.heap[k]?) ∧ Blk w' Sb #[.int .i64 fin, va] 46 ∧ CerIn w6 w7 (w'.setCell ⟨Sb, 1, none⟩ v') r0 base n Sb fin v' (ar ++ [c]) vl gs L := by
  obtain ⟨i1, hi1, hy0, hy1, hy2⟩ := info_parts infoArc
  have hs := h.grow.size
  have hA := h.later ((Below.refl wr.heap.size wr).alloc (Nat.le_refl _) (.cells (encA c).toArray 63))
  obtain ⟨v4, w4, r4, ho4, hg4, hn4⟩ := run_append_spot (P := Tryd.prog) (w := wr.alloc (.cells (encA c).toArray 63)) encA_len (by decide) encA_one 44 44 w7.heap.size 63 i1 _ 32 Tryd.underlying44 hi1 hy0 hy1 hy2 rfl _ ar.length (ar.flatMap encA) hA.arcs _ [c] (oneRow (enc := encA) wr c rfl 63) (by simp; unfold maxLen; omega) (by simp; omega) (by have := h.s7; simp; omega)
  have hO : OwnArcs w4 w7.heap.size v4 (ar ++ [c]) := by unfold OwnArcs; rw [List.length_append, List.flatMap_append]; exact ho4
  have hge : ∀ x, va.ownBlock = some x → w7.heap.size ≤ x := fun x hx => (hA.arcs.lt x hx).1
  have hG : w6.grownBy w4 r0 := gRowC hA.grow hg4 (fun x hx => Nat.le_trans h.s67 (hge x hx))
  have hM : ∀ k, w6.heap.size ≤ k → k < w7.heap.size → k ≠ Sb → w4.heap[k]? = w7.heap[k]? := fun k h1 h2 h3 => (hg4.block k (Nat.lt_of_lt_of_le h2 hA.s7) (fun e => by have := hge k e.symm; omega)).trans (hA.mid k h1 h2 h3)
  have hS : Blk w4 Sb #[.int .i64 fin, va] 46 := hA.sb.grown hg4 (own_ne hA.arcs hA.sb (by decide))
  have hT : GridM w4 base n vl gs L := hA.grid.keptO hA.arcs (by decide) (by decide) hg4
  refine ⟨v4, w4, r4, hM, hS, gSetNew hG h.sbge 1 _, fun k h1 h2 h3 => (Below.heap_setCell w4 _ _ k h3).trans (hM k h1 h2 h3), h.s67, by simp [World.setCell]; exact Nat.le_trans hA.s7 hg4.size, h.rl, h.near, hT.setB hS (by decide) (fun j hj => blk_ne (hT.2.2.1 j hj).2.2 hS (by decide)) 1 _, ?_, World.ownsRow.kept hO (gSet w4 Sb 1 v4) (.inr (Ne.symm (own_ne hO hS (by decide)))), h.sbge⟩
  have h9 := hS.set 1 v4
  exact h9
end
/-- The machine's box, the answer's, the new machine's with its states, the sets. -/
structure CerAt (w wr : World) (ca : Array Value) (M n : Nat) (vm : Value) (S : List St) (vl : Value) (gs : List Nat) (L : List (List Int)) : Prop where
  bxA : Blk wr w.heap.size ca 24
  bxR : Blk wr (w.heap.size + 1) #[.int .i64 0, .slice none 0 0] 24
  bxM : Blk wr M #[.int .i64 0, vm] 24
  sts : OwnSts wr (w.heap.size + 2) vm S
  grid : GridM wr (w.heap.size + 2) n vl gs L
  below : Below w.heap.size w wr
  sM : w.heap.size + 2 ≤ M
section
variable {w wr : World} {ca : Array Value} {M n : Nat} {vm : Value} {S : List St} {vl : Value} {gs : List Nat} {L : List (List Int)}
theorem CerAt.later {w' : World} (h : CerAt w wr ca M n vm S vl gs L) (hb : Below wr.heap.size wr w') : CerAt w w' ca M n vm S vl gs L :=
  ⟨h.bxA.below hb h.bxA.lt, h.bxR.below hb h.bxR.lt, h.bxM.below hb h.bxM.lt, h.sts.laterB hb, h.grid.later hb, h.below.trans (hb.mono h.below.size), h.sM⟩
theorem CerAt.drew (h : CerAt w wr ca M n vm S vl gs L) : CerAt w wr.drew ca M n vm S vl gs L := h.later (Below.refl wr.heap.size wr).drew
theorem CerAt.drewN (h : CerAt w wr ca M n vm S vl gs L) (q : Nat) : CerAt w (wr.drewN q) ca M n vm S vl gs L := h.later ⟨rfl, rfl, rfl, Nat.le_refl _, fun _ _ => rfl⟩
/-- A state begins. -/
theorem CerAt.enter (h : CerAt w wr ca M n vm S vl gs L) (fin : Int) {w7 : World} (hb : Below (wr.alloc (.cells #[.int .i64 fin, .slice none 0 0] 46)).heap.size (wr.alloc (.cells #[.int .i64 fin, .slice none 0 0] 46)) w7) : CerIn wr w7 w7 vl.ownBlock (w.heap.size + 2) n wr.heap.size fin (.slice none 0 0) [] vl gs L := by
  have hA : Below wr.heap.size wr (wr.alloc (.cells #[.int .i64 fin, .slice none 0 0] 46)) := (Below.refl _ _).alloc (Nat.le_refl _) _
  have h7 : Below wr.heap.size wr w7 := hA.trans (hb.mono (by simp))
  have hk := Blk.made wr #[.int .i64 fin, .slice none 0 0] 46
  exact ⟨gNew h7, fun k _ _ _ => rfl, h7.size, Nat.le_refl _, fun x hx => (h.grid.2.1.lt x hx).2, .inl rfl, h.grid.later h7, hk.below hb hk.lt, OwnArcs.nil _ _, Nat.le_refl _⟩
/-- Meanwhile the rest stays. -/
theorem CerAt.meanwhile {w6 : World} {v6 : Value} {g6 : List Nat} {L6 : List (List Int)} (h : CerAt w w6 ca M n vm S v6 g6 L6) (hg : w6.grownBy wr v6.ownBlock) (ht : GridM wr (w.heap.size + 2) n vl gs L) : CerAt w wr ca M n vm S vl gs L := by
  have hs := h.below.size
  have hne : ∀ {b : Nat} {cs : Array Value}, Blk w6 b cs 24 → some b ≠ v6.ownBlock := fun hb => own_ne h.grid.2.1 hb (by decide)
  exact ⟨h.bxA.grown hg (hne h.bxA), h.bxR.grown hg (hne h.bxR), h.bxM.grown hg (hne h.bxM), h.sts.keptG h.grid hg, ht, h.below.trans (gBelow hg (fun k hk => by have := (h.grid.2.1.lt k hk).1; omega) hs), h.sM⟩
/-- m.States = append(m.States, s). -/
theorem CerAt.push (h : CerAt w wr ca M n vm S vl gs L) (s : St) {va : Value} (hva : OwnArcs wr (w.heap.size + 2) va s.2) (hl : S.length ≤ 100000) (hz : w.heap.size + 2 ≤ wr.heap.size) :
    ∃ v' w', (Builtin.append_ #[22, 22] 22 #[vm, .slice (some ⟨wr.heap.size, 0, none⟩) 1 1]).run Tryd.prog (wr.alloc (.cells #[.int .i64 s.1, va] 46)) = .ok v' w' ∧ Blk w' M #[.int .i64 0, vm] 24 ∧ CerAt w (w'.setCell ⟨M, 1, none⟩ v') ca M n v' (S ++ [s]) vl gs L := by
  obtain ⟨v6, w6, hr6, ho6, hb6, hg6⟩ := run_pushG (W := wr.alloc (.cells #[.int .i64 s.1, va] 46)) (w1 := wr) s S va vm (w.heap.size + 2) rfl rfl rfl rfl h.sts hva (by omega) hz
  have hA := h.later ((Below.refl wr.heap.size wr).alloc (Nat.le_refl _) (.cells #[.int .i64 s.1, va] 46))
  have hM6 : Blk w6 M #[.int .i64 0, vm] 24 := hA.bxM.grown hg6 (hA.sts.ne hA.bxM)
  have hne : ∀ {b : Nat}, b < w.heap.size + 2 → b ≠ M := fun hb => by have := h.sM; omega
  obtain ⟨vs, q1, q2, q3⟩ := hA.sts
  have hT6 : GridM w6 (w.heap.size + 2) n vl gs L := hA.grid.keptO q1 (by decide) (by decide) hg6
  refine ⟨v6, w6, hr6, hM6, (hA.bxA.grown hg6 (own_ne q1 hA.bxA (by decide))).setO _ _ (hne (by omega)), (hA.bxR.grown hg6 (own_ne q1 hA.bxR (by decide))).setO _ _ (hne (by omega)), hM6.set 1 _, ho6.setM hM6 1 _, hT6.setB hM6 (by decide) (fun j hj => blk_ne (hT6.2.2.1 j hj).2.2 hM6 (by decide)) 1 _, h.below.trans ((hb6.mono (by omega)).setCell (p := ⟨M, 1, none⟩) (by have := h.sM; show w.heap.size ≤ M; omega) _), h.sM⟩
end
end Go.Proofs.YtfekmlblldhieaaDoor.Wt
namespace Go.Proofs.YtfekmlblldhieaaDoor.Wt
open Go.ChangeShapes Go.WideShapes Go.ChangeAt Go.RowKit
open Go.Proofs.YtfekmlblldhieaaDoor.Pl
set_option linter.unusedVariables false
set_option linter.unusedSimpArgs false
/-- Arcs of the call's own, one by one: where they lie. -/
theorem OwnArcs.spot {w : World} {base : Nat} {a : Option Addr} {m c : Nat} {P : List Ar} (h : OwnArcs w base (.slice a m c) P) {k : Nat} (hk : k < P.length) : ∃ b, a = some ⟨b, 0, none⟩ ∧ base ≤ b ∧ b < w.heap.size ∧ w.cell? ⟨b, k * 4, none⟩ = some (.int .i64 (el P k).1) ∧ w.cell? ⟨b, k * 4 + 1, none⟩ = some (.int .i64 (el P k).2.1) := by
  rcases h.2 with ⟨_, h0⟩ | ⟨g, cap, cur, hv, hg, hh, _⟩
  · exact absurd h0 (by omega)
  · injection hv with h1 _ _
    obtain ⟨b, off, e1, hb, c0, c1, _⟩ := arcs_at h.arcs hk
    rw [h1] at e1
    injection e1 with e1
    injection e1 with e2 e3 _
    subst e2
    subst e3
    rw [Nat.zero_add] at c0 c1
    exact ⟨_, h1, hg, hb, c0, c1⟩
def HeldYa (B : Nat) (z : Int) (vs : Value) (b o : Nat) (x0 x1 : Int) (w : World) : Prop := w.cell? ⟨B, 0, none⟩ = some (.int .i64 z) ∧ w.cell? ⟨B, 1, none⟩ = some vs ∧ w.cell? ⟨b, o, none⟩ = some (.int .i64 x0) ∧ w.cell? ⟨b, o + 1, none⟩ = some (.int .i64 x1)
theorem HeldYa.later {B : Nat} {z : Int} {vs : Value} {b o : Nat} {x0 x1 : Int} {w w' : World} (h : HeldYa B z vs b o x0 x1 w) (hb : Below w.heap.size w w') (h1 : B < w.heap.size) (h2 : b < w.heap.size) : HeldYa B z vs b o x0 x1 w' :=
  ⟨(hb.cell (p := ⟨B, 0, none⟩) h1).trans h.1, (hb.cell (p := ⟨B, 1, none⟩) h1).trans h.2.1, (hb.cell (p := ⟨b, o, none⟩) h2).trans h.2.2.1, (hb.cell (p := ⟨b, o + 1, none⟩) h2).trans h.2.2.2⟩
def HeldYb (Sb : Nat) (va : Value) (b o : Nat) (x0 x1 : Int) (w : World) : Prop := w.cell? ⟨Sb, 1, none⟩ = some va ∧ w.cell? ⟨b, o, none⟩ = some (.int .i64 x0) ∧ w.cell? ⟨b, o + 1, none⟩ = some (.int .i64 x1)
def HeldYf (g p : Nat) (sp : Int) (B : Nat) (vs : Value) (b o : Nat) (fp : Int) (w : World) : Prop := w.cell? ⟨g, p, none⟩ = some (.int .i64 sp) ∧ w.cell? ⟨B, 1, none⟩ = some vs ∧ w.cell? ⟨b, o, none⟩ = some (.int .i64 fp)
theorem hops_el {l : List St} {row : List Int} {P : List Ar} (h : P.map prA = prsL l row) : (hopsC l row).length = P.length ∧ ∀ i, i < P.length → el (hopsC l row) i = hopC l row (prA (el P i)) := by
  unfold hopsC
  rw [← h]
  refine ⟨by simp, fun i hi => ?_⟩
  rw [List.map_map, el_map hi]
  rfl
theorem hpL_len {hs : List (Hg (List Int))} {L : List (List Int)} {n : Nat} (h60 : L.length ≤ 60) {i : Nat} (hf : Fine hs L n i) : (hpL hs L i).length ≤ 60 := by
  cases i with
  | zero => exact h60
  | succ i => exact (hf i (Nat.lt_succ_self _)).2.2
theorem fine_n {hs : List (Hg (List Int))} {L : List (List Int)} {n : Nat} (h4 : n ≤ 400) {i : Nat} (hf : Fine hs L n i) : n + i ≤ 400 := by
  cases i with
  | zero => exact h4
  | succ i => exact (hf i (Nat.lt_succ_self _)).2.1
theorem fine_step {hs : List (Hg (List Int))} {L : List (List Int)} {n i : Nat} (hf : Fine hs L n i) (h1 : (el hs i).2.2.1 ≤ 1000000000) (h2 : n + (i + 1) ≤ 400) (h3 : (hpL hs L (i + 1)).length ≤ 60) : Fine hs L n (i + 1) := fun j hj => by
  by_cases e : j = i
  · subst e; exact ⟨h1, h2, h3⟩
  · exact hf j (by omega)
/-- Taken away place by place. -/
def subI (w c : Int) : Int := if c = noneI then noneI else c - w
theorem subS_of {N cs : List Int} {w : Int} (hl : cs.length = N.length) (h : ∀ j, j < N.length → el cs j = subI w (el N j)) : cs = subS N w := by
  refine el_ext (by simp [subS, hl]) fun j hj => ?_
  rw [h j (by omega), sub_el (by omega)]
  rfl
/-- What is found of a set, what is added, the arc that leads there. -/
theorem fnd_arc {L : List (List Int)} (hn : L.Nodup) (t : List Int) (x0 x1 x2 : Int) : ∃ jx : Nat, arcG L (x0, x1, x2, t) = (x0, x1, x2, (jx : Int)) ∧ (t ∈ L → fndG L t L.length = (jx : Int) ∧ addG L t = L) ∧ (t ∉ L → fndG L t L.length = -1 ∧ addG L t = L ++ [t] ∧ jx = L.length) :=
  ⟨_, rfl, fndG_old hn, fndG_new hn⟩
/-- What lies behind costs nothing below 0. -/
theorem beh_ge {m : Mc} {B : Int} {S : List Int} (hf : faultM m = 0) (hS : SetN m.2.length B S) (i o : Int) : ∀ c ∈ behL m.2 S i o, 0 ≤ c := fun c hc => by
  obtain ⟨t, ht, e⟩ := List.getElem_of_mem hc
  rw [beh_len] at ht
  rw [← e, ← el_get (by rw [beh_len]; exact ht), beh_el ht]
  rcases mnL_mem (cosL m.2 S i o t) with h | h
  · rw [h]; decide
  · refine (cos_low hf hS (W := 1000000000) (fun q a ha => ?_) h).1
    by_cases hq : q < m.2.length
    · exact (arc_low hf hq ha).2.1
    · rw [show el m.2 q = default by simp [el, List.getElem?_eq_none (Nat.le_of_not_lt hq)]] at ha
      exact absurd ha (by show ¬ a ∈ ([] : List Ar); simp)
theorem min_ge {N : List Int} (h : ∀ c ∈ N, 0 ≤ c) : 0 ≤ mnL N := by
  rcases mnL_mem N with e | e
  · rw [e]; decide
  · exact h _ e
end Go.Proofs.YtfekmlblldhieaaDoor.Wt
