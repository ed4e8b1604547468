/- strings.Builder, as far as the program uses it, where it is the part of a writer: WriteString, String. The program's writer: lines of words. The program's writer: a start, a state, an arc. -/
import Derived.Test.YtbbjpdadickilaaDoorRows
import Derived.Test.YtbbjpdadickilaaDoorPlainH
import Derived.WalkKit
import Derived.ProofKit
import Derived.OpenShut
import Derived.Below
import Derived.Lib.Builder
import Derived.Lib.AppendStr
import Derived.Lib.UnsafeStr
import Derived.Laws.Externs
import Derived.Shelf.RegionOpenPlain
import Derived.Test.YtbbjpdadickilaaDoorShelf
import Derived.Test.YtbbjpdadickilaaDoorTa
import Derived.Test.YtbbjpdadickilaaDoorSh
import Derived.Test.YtbbjpdadickilaaDoorJ9c
import Derived.Test.YtbbjpdadickilaaDoorRg
import Derived.Deep.RegionWith
import Derived.Test.YtbbjpdadickilaaDoorBlk
namespace Go.Proofs.YtbbjpdadickilaaDoor.Wt
open Go.ChangeShapes Go.WideShapes Go.ChangeAt Go.RowKit
open Go.Proofs.YtbbjpdadickilaaDoor.Pl
set_option linter.unusedVariables false
theorem infoBuilder : (Tryd.prog.info? 44).map (·.size) = some 2 := by kernel_rfl
theorem liesWriter : liesAt Tryd.prog Tryd.prog.depth 46 (2 / Tryd.prog.cellsOf 46) 0 44 1 = true := by kernel_rfl
theorem infoByte : (Tryd.prog.info? 5).map (fun i => (i.zero, i.size, i.bytes)) = some (some (.int .u8 0), 1, 1) := by kernel_rfl
theorem chk_used (b : Nat) (w : World) (h0 : w.cell? ⟨b, 0, none⟩ = some (.pointer (some ⟨b, 0, none⟩))) :
    Calls Tryd.prog 42 #[.pointer (some ⟨b, 0, none⟩)] w fun e w' => e = .returned (.tuple #[]) ∧ w' = w := by
  obtain ⟨j, hj, _⟩ := Option.map_eq_some_iff.1 infoBuilder
  have hne := Lib.run_neq_ptr_same (P := Tryd.prog) w ⟨b, 0, none⟩ Tryd.underlying42 hj
  go_enter Tryd.func42, Tryd.ntmps42
  go_wp2
  go_end0
  exact ⟨rfl, rfl⟩
theorem noEscape (a : Addr) (w : World) : (callFunc 45 #[.pointer (some a)]).run Tryd.prog w = .ok (.value (.pointer (some a))) w := by
  rw [run_callFunc_extern Tryd.func45 (by kernel_rfl) (by kernel_rfl) (by kernel_rfl) (e := Extern.AbiNoEscape.same) (by kernel_rfl)]
  rfl
theorem chk_fresh (b : Nat) (w : World) (h0 : w.cell? ⟨b, 0, none⟩ = some (.pointer none)) (hsh : w.shape? b = some (46, 2)) (hfz : w.frozen? ⟨b, 0, none⟩ = false) :
    Calls Tryd.prog 42 #[.pointer (some ⟨b, 0, none⟩)] w fun e w' => e = .returned (.tuple #[]) ∧ w' = w.setCell ⟨b, 0, none⟩ (.pointer (some ⟨b, 0, none⟩)) := by
  obtain ⟨j, hj, hjs⟩ := Option.map_eq_some_iff.1 infoBuilder
  have hne := fun w => Lib.run_neq_ptr_same (P := Tryd.prog) w ⟨b, 0, none⟩ Tryd.underlying42 hj
  have hto := Lib.run_to_unsafe (P := Tryd.prog) w ⟨b, 0, none⟩ Tryd.underlying42 Tryd.underlying87 hj (by rw [hjs]; decide) hsh (Nat.zero_lt_succ 1)
  have hfr := Lib.run_from_unsafe (P := Tryd.prog) w ⟨b, 0, none⟩ Tryd.underlying87 Tryd.underlying42 hj hsh liesWriter
  have hes := noEscape ⟨b, 0, none⟩ w
  go_enter Tryd.func42, Tryd.ntmps42
  go_wp2
  go_end0
  exact ⟨rfl, rfl⟩
/-- Blocks that are no writers and no rows of bytes are as they were. -/
def Oth (w w' : World) : Prop := ∀ (k : Nat) (cs : Array Value) (T : TypeId) (fr : Nat × Nat), w.heap[k]? = some (.cells cs T fr) → T ≠ 46 → T ≠ 5 → w'.heap[k]? = some (.cells cs T fr)
theorem Oth.refl (w : World) : Oth w w := fun _ _ _ _ h _ _ => h
theorem Oth.trans {w w' w2 : World} (h : Oth w w') (h2 : Oth w' w2) : Oth w w2 := fun k cs T fr e a b => h2 k cs T fr (h k cs T fr e a b) a b
theorem Oth.of {w w' : World} (h : Below w.heap.size w w') : Oth w w' := fun k cs T fr e _ _ => (h.block k (lt_of_block e)).trans e
theorem Oth.set {w : World} {b o : Nat} {v : Value} {cs : Array Value} (hb : w.heap[b]? = some (.cells cs 46 (0, 0))) : Oth w (w.setCell ⟨b, o, none⟩ v) := fun k ds T fr e a _ => by
  by_cases hk : k = b
  · subst hk
    rw [hb] at e
    simp only [Option.some.injEq, Obj.cells.injEq] at e
    exact absurd e.2.1.symm a
  · rw [Below.heap_setCell _ _ _ _ (fun h => hk h)]; exact e
theorem Oth.grown {w w' : World} {B : Nat} {v : Value} {n : Nat} {xs : List Value} (ho : w.ownsRow B 5 1 v n xs) (hg : w.grownBy w' v.ownBlock) : Oth w w' := fun k ds T fr e _ b => by
  rw [hg.block k (lt_of_block e) (fun h => ?_)]
  · exact e
  · rcases ho.2 with ⟨hv, _⟩ | ⟨g, cap, cur, hv, _, hgb, _⟩
    · rw [hv] at h; simp [Value.ownBlock] at h
    · rw [hv] at h
      simp only [Value.ownBlock, Option.some.injEq] at h
      subst h
      rw [hgb] at e
      simp only [Option.some.injEq, Obj.cells.injEq] at e
      exact b e.2.1.symm
theorem chk_any (B b : Nat) (bs : List Value) (w : World) (h : Lib.IsBuilder 46 5 B b bs w) :
    Calls Tryd.prog 42 #[.pointer (some ⟨b, 0, none⟩)] w fun e w' => e = .returned (.tuple #[]) ∧ (Lib.BuilderAt 46 5 B b (.pointer (some ⟨b, 0, none⟩)) bs w' ∧ Below B w w' ∧ Oth w w') := by
  rcases h with h | h
  · refine (chk_fresh b w h.cell0 h.shape h.frozen0).mono ?_
    rintro e w' ⟨rfl, rfl⟩
    exact ⟨rfl, h.used _, (Below.refl B w).setCell (p := ⟨b, 0, none⟩) h.1 _, by obtain ⟨_, _, hb, _⟩ := h; exact Oth.set hb⟩
  · refine (chk_used b w h.cell0).mono ?_
    rintro e w' ⟨rfl, rfl⟩
    exact ⟨rfl, h, Below.refl B _, Oth.refl _⟩
/-- The room that the two facts on the builder's block leave. -/
theorem put_facts {B b : Nat} {v v' : Value} {bs : List Value} {w1 w2 : World} {k : List Value} (hbk : w1.heap[b]? = some (.cells #[.pointer (some ⟨b, 0, none⟩), v] 46 (0, 0))) (hne : v.ownBlock ≠ some b) (hg : w1.grownBy w2 v.ownBlock) :
    w2.heap[b]? = some (.cells #[.pointer (some ⟨b, 0, none⟩), v] 46 (0, 0)) := by
  rw [hg.block b (lt_of_block hbk) (fun e => hne e.symm)]
  exact hbk
theorem own_slice {w : World} {B : Nat} {e : TypeId} {v : Value} {n : Nat} {xs : List Value} (h : w.ownsRow B e 1 v n xs) : ∃ ao n' cap, v = .slice ao n' cap := by
  rcases h.2 with ⟨hv, _⟩ | ⟨g, cap, cur, hv, _⟩
  · exact ⟨_, _, _, hv⟩
  · exact ⟨_, _, _, hv⟩
set_option maxHeartbeats 1000000 in
theorem write_any (B b : Nat) (bs : List Value) (s : ByteArray) (w : World) (h : Lib.IsBuilder 46 5 B b bs w) (hlen : bs.length + s.size ≤ 140737488355328) (hBw : B ≤ w.heap.size) :
    Calls Tryd.prog 37 #[.pointer (some ⟨b, 0, none⟩), .string s] w fun e w' => e = .returned (.tuple #[.int .i64 s.size, .nilIface]) ∧ (Lib.IsBuilder 46 5 B b (bs ++ Lib.strCells s) w' ∧ Below B w w' ∧ Oth w w') := by
  obtain ⟨i0, hi, hz0, hz1, hz2⟩ := info_parts infoByte
  have H : Hid (Lib.IsBuilder 46 5 B b bs w) := h
  clear h
  go_enter Tryd.func37, Tryd.ntmps37
  go_wp2_with (go_at_call 42; refine (chk_any B b bs _ H.out).mono ?_)
  rintro e w1 ⟨rfl, h1, hb1, ho1⟩
  have HO1 : Hid (Oth w w1) := ho1
  clear ho1
  obtain ⟨hB, v, hbk, hown, hne⟩ := h1
  have c0 : w1.cell? ⟨b, 0, none⟩ = some (.pointer (some ⟨b, 0, none⟩)) := by simp [World.cell?, hbk]
  have c1 : w1.cell? ⟨b, 1, none⟩ = some v := by simp [World.cell?, hbk]
  have hbs := hb1.size
  go_wp2_with (at_builtin; refine Lib.wpList_append_own_string _ rfl _ _ 25 9 rfl B 5 i0 Tryd.underlying25 Tryd.underlying9 hi hz0 hz1 hz2 _ _ _ rfl hown s rfl (by unfold maxLen; omega) (by omega) (by omega) ?_)
  intro v' w2 hown' hgrow _
  have hb2 := put_facts (v' := v') (bs := bs) (B := B) (k := []) hbk hne hgrow
  have d0 : w2.cell? ⟨b, 0, none⟩ = some (.pointer (some ⟨b, 0, none⟩)) := by simp [World.cell?, hb2]
  have d1 : w2.cell? ⟨b, 1, none⟩ = some v := by simp [World.cell?, hb2]
  have f1 : w2.frozen? ⟨b, 1, none⟩ = false := by simp [World.frozen?, hb2]
  obtain ⟨ao, n', cap, rfl⟩ := own_slice hown'
  go_wp2
  go_ret2
  refine ⟨rfl, .inr ?_, ?_, ?_⟩
  · exact Lib.BuilderAt.put (T := 46) (e := 5) hB hb2 (bs' := bs ++ Lib.strCells s) (by simpa [Lib.strCells_length] using hown') (by decide)
  · exact (hb1.grown hgrow (by omega) (fun k hk => (hown.lt k hk).1)).setCell (p := ⟨b, 1, none⟩) hB _
  · exact (HO1.out.trans (Oth.grown hown hgrow)).trans (Oth.set hb2)
/-- A writer that holds these bytes. -/
def Bld (B b : Nat) (l : List UInt8) (w : World) : Prop := Lib.IsBuilder 46 5 B b (Lib.byteCells l) w
theorem bat_later {B b : Nat} {p : Value} {bs : List Value} {w w' : World} (h : Lib.BuilderAt 46 5 B b p bs w) (hb : Below w.heap.size w w') : Lib.BuilderAt 46 5 B b p bs w' := by
  obtain ⟨h1, v, h2, h3, h4⟩ := h
  exact ⟨h1, v, (hb.block b (lt_of_block h2)).trans h2, h3.kept (row := none) ⟨hb.os, hb.tape, hb.output, hb.size, fun k hk _ => hb.block k hk⟩ (by
    cases hv : v.ownBlock with
    | none => exact .inl rfl
    | some k => exact .inr (by simp)), h4⟩
theorem Bld.later {B b : Nat} {l : List UInt8} {w w' : World} (h : Bld B b l w) (hb : Below w.heap.size w w') : Bld B b l w' := by
  rcases h with h | h
  · exact .inl (bat_later h hb)
  · exact .inr (bat_later h hb)
theorem Bld.lt {B b : Nat} {l : List UInt8} {w : World} (h : Bld B b l w) : b < w.heap.size := by
  rcases h with h | h
  · exact h.lt
  · exact h.lt
theorem Bld.made (w : World) : Bld w.heap.size w.heap.size [] (w.alloc (.cells #[.pointer none, .slice none 0 0] 46)) := by
  refine .inl ⟨Nat.le_refl _, .slice none 0 0, ?_, World.ownsRow_nil _ _ _ _, by simp [Value.ownBlock]⟩
  show (w.heap.push _)[w.heap.size]? = _
  simp
theorem write_bytes (B b : Nat) (l : List UInt8) (s : ByteArray) (w : World) (h : Bld B b l w) (hlen : l.length ≤ 1000000) (hs : s.size ≤ 1000000) (hBw : B ≤ w.heap.size) :
    Calls Tryd.prog 37 #[.pointer (some ⟨b, 0, none⟩), .string s] w fun e w' => e = .returned (.tuple #[.int .i64 s.size, .nilIface]) ∧ (Bld B b (l ++ s.data.toList) w' ∧ Below B w w' ∧ Oth w w') := by
  refine (write_any B b (Lib.byteCells l) s w h (by rw [Lib.byteCells_length]; omega) hBw).mono ?_
  rintro e w' ⟨rfl, h1, h2⟩
  exact ⟨rfl, by unfold Bld; rw [Lib.byteCells, List.map_append]; exact h1, h2⟩
theorem cellsByte : Tryd.prog.cellsOf 5 = 1 := by kernel_rfl
set_option maxHeartbeats 1000000 in
set_option maxRecDepth 100000 in
theorem string_any (B b : Nat) (l : List UInt8) (w : World) (h : Bld B b l w) (h0 : l ≠ []) :
    Calls Tryd.prog 19 #[.pointer (some ⟨b, 0, none⟩)] w fun e w' => e = .returned (.string (textS l)) ∧ Below B w w' := by
  obtain ⟨p, hB, v, hbk, hown, hne⟩ : ∃ p, Lib.BuilderAt 46 5 B b p (Lib.byteCells l) w := by
    rcases h with h | h
    · exact ⟨_, h⟩
    · exact ⟨_, h⟩
  have hl0 : l.length ≠ 0 := by simpa using h0
  rw [Lib.byteCells_length] at hown
  obtain ⟨g, cap, cur, rfl, hbg, hg, hnc, hcm, hcs, htake⟩ : ∃ g cap cur, v = .slice (some ⟨g, 0, none⟩) l.length cap ∧ B ≤ g ∧ w.heap[g]? = some (.cells cur 5 (0, 0)) ∧ l.length ≤ cap ∧ cap ≤ maxLen ∧ cur.size = cap * 1 ∧ cur.toList.take (l.length * 1) = Lib.byteCells l := by
    rcases hown.2 with ⟨_, hz⟩ | ⟨g, cap, cur, hv, r⟩
    · exact absurd hz hl0
    · exact ⟨g, cap, cur, hv, r⟩
  have c1 : w.drew.cell? ⟨b, 1, none⟩ = some (.slice (some ⟨g, 0, none⟩) l.length cap) := by
    have : w.drew.heap[b]? = some (.cells #[p, .slice (some ⟨g, 0, none⟩) l.length cap] 46 (0, 0)) := hbk
    rw [Lib.cell_of_heap this]; rfl
  have hSD : (Builtin.unsafeSliceData_ #[25] 73 #[.slice (some ⟨g, 0, none⟩) l.length cap]).run Tryd.prog w.drew = .ok (.pointer (some ⟨g, 0, none⟩)) w.drew :=
    Lib.run_unsafeSliceData_row _ _ _ _ _ _ (by omega)
  have hUS : (Builtin.unsafeString_ #[73, 3] 9 #[.pointer (some ⟨g, 0, none⟩), .int .i64 l.length]).run Tryd.prog w.drew = .ok (.string (textS l)) (w.drew.freeze ⟨g, 0, none⟩ l.length) := by
    refine Lib.run_unsafeString_row w.drew 73 3 9 5 Tryd.underlying73 cellsByte g cur.size (by have hg' : w.drew.heap[g]? = some (.cells cur 5 (0, 0)) := hg; simp [World.shape?, hg']) l h0 (by omega) (by unfold maxLen at hcm; omega) ?_
    intro j x hx
    have := hown.cells (g := g) rfl j (.int .u8 x.toNat) (by simp [Lib.byteCells, hx])
    exact this
  have mixed : Tryd.prog.follows Departure.mixedOrders = true := by kernel_rfl
  clear hbk hown hne htake hg hcs
  go_enter Tryd.func19, Tryd.ntmps19
  go_wp2
  go_region_o
  all_goals (go_wp2; go_ret; exact ⟨rfl, Lib.below_freeze (Below.drew (Below.refl B w)) (p := ⟨g, 0, none⟩) hbg _⟩)
end Go.Proofs.YtbbjpdadickilaaDoor.Wt
namespace Go.Proofs.YtbbjpdadickilaaDoor.Wt
open Go.ChangeShapes Go.WideShapes Go.ChangeAt Go.RowKit
open Go.Proofs.YtbbjpdadickilaaDoor.Pl
set_option linter.unusedVariables false
set_option linter.unusedSimpArgs false
/-- Words in memory, from the head of a block on. -/
def Wds (w : World) (bk : Nat) (xs : List ByteArray) : Prop := bk < w.heap.size ∧ ∀ (j : Nat) x, xs[j]? = some x → w.cell? ⟨bk, 0 + j, none⟩ = some (.string x)
theorem Wds.later {w w' : World} {bk : Nat} {xs : List ByteArray} (h : Wds w bk xs) (hb : Below w.heap.size w w') : Wds w' bk xs :=
  ⟨Nat.lt_of_lt_of_le h.1 hb.size, fun j x hx => (hb.cell (p := ⟨bk, 0 + j, none⟩) h.1).trans (h.2 j x hx)⟩
theorem Wds.made (w : World) (xs : List ByteArray) (t : TypeId) : Wds (w.alloc (.cells (xs.map Value.string).toArray t)) w.heap.size xs := by
  refine ⟨by simp, fun j x hx => ?_⟩
  have h := Lib.cell_of_heap (w := w.alloc (.cells (xs.map Value.string).toArray t)) (b := w.heap.size) (cs := (xs.map Value.string).toArray) (T := t) (fr := (0, 0)) (by show (w.heap.push _)[w.heap.size]? = _; simp) (0 + j)
  rw [h]
  simp [hx]
theorem join_any (bk c : Nat) (xs : List ByteArray) (n : Nat) (w : World) (h : Wds w bk xs) (hn : xs.length = n) (hc : n ≤ c) (hn5 : n ≤ 100) (hl : (lineP (xs.map (·.data.toList))).length ≤ 1000) :
    Calls Tryd.prog 38 #[.slice (some ⟨bk, 0, none⟩) n c, .string ⟨#[32]⟩] w fun e w' => e = .returned (.string (textS (lineP (xs.map (·.data.toList))))) ∧ Below w.heap.size w w' := by
  subst hn
  have e : Lib.join (xs.map (·.data.toList)) (⟨#[32]⟩ : ByteArray).data.toList = lineP (xs.map (·.data.toList)) := join_line _
  have := Tryd.strings_Join bk 0 c xs ⟨#[32]⟩ w h.2 h.1 (by omega) hc (by rw [e]; omega)
  rw [e] at this
  exact this
set_option maxHeartbeats 1000000 in
theorem line_any (B b : Nat) (l : List UInt8) (bk c : Nat) (xs : List ByteArray) (n : Nat) (w : World) (h : Bld B b l w) (hs : Wds w bk xs) (hn : xs.length = n) (hc : n ≤ c) (hn5 : n ≤ 100) (hx : (lineP (xs.map (·.data.toList))).length ≤ 1000) (hl : l.length ≤ 500000) (hBw : B ≤ w.heap.size)
    (t : List UInt8) (ht : l ++ lineP (xs.map (·.data.toList)) ++ [10] = t) :
    Calls Tryd.prog 30 #[.pointer (some ⟨b, 0, none⟩), .slice (some ⟨bk, 0, none⟩) n c] w fun e w' => e = .returned (.tuple #[]) ∧ (Bld B b t w' ∧ Below B w w' ∧ Oth w w') := by
  obtain ⟨y, hy⟩ : ∃ y, textS (lineP (xs.map (·.data.toList))) = y := ⟨_, rfl⟩
  have hys : y.size = (lineP (xs.map (·.data.toList))).length := by rw [← hy]; rfl
  have hyl : y.data.toList = lineP (xs.map (·.data.toList)) := by rw [← hy]; rfl
  have HJ : Hid (∀ W : World, Below w.heap.size w W → Calls Tryd.prog 38 #[.slice (some ⟨bk, 0, none⟩) n c, .string ⟨#[32]⟩] W fun e w' => e = .returned (.string y) ∧ Below W.heap.size W w') := fun W hW => by
    have := join_any bk c xs n W (hs.later hW) hn hc hn5 hx
    rw [hy] at this
    exact this
  have HT : Hid (l ++ y.data.toList ++ [10] = t) := by show _ = _; rw [hyl]; exact ht
  have HB : Hid (Bld B b l w) := h
  have HY : Hid (y.size ≤ 1000000) := by show _ ≤ _; omega
  have HL : Hid (l.length ≤ 1000000) := by show _ ≤ _; omega
  have HL2 : Hid ((l ++ y.data.toList).length ≤ 1000000) := by show _ ≤ _; rw [hyl, List.length_append]; omega
  have H10 : Hid ((⟨#[10]⟩ : ByteArray).size ≤ 1000000) := by show 1 ≤ _; omega
  have HD : Hid (Below w.heap.size w w.drew) := (Below.refl _ _).drew
  have HBW : Hid (B ≤ w.heap.size) := hBw
  clear hy hys hyl hx hl ht h hs hn hc hBw
  go_enter Tryd.func30, Tryd.ntmps30
  go_wp2_with fail
  go_region_with (first
    | (go_at_call 38; (with_reducible refine (HJ.out _ HD.out).mono ?_); rintro e w1 ⟨rfl, hb1⟩; have HB1 : Hid (Bld B b l w1) := (HB.out.later HD.out).later hb1; have HW1 : Hid (Below B w w1) := (HD.out.mono HBW.out).trans (hb1.mono HBW.out); have HO1 : Hid (Oth w w1) := (Oth.of HD.out).trans (Oth.of hb1); clear hb1)
    | (go_at_call 37; (with_reducible refine (write_bytes _ _ _ _ _ HB1.out HL.out HY.out (Nat.le_trans HBW.out HW1.out.size)).mono ?_); rintro e w2 ⟨rfl, hB2, hb2, ho2⟩; have HO2 : Hid (Oth w w2) := HO1.out.trans ho2; have HB2 : Hid (Bld B b (l ++ y.data.toList) w2) := hB2; have HW2 : Hid (Below B w w2) := HW1.out.trans hb2; clear hB2 hb2 ho2))
  all_goals go_wp2_with (first
    | (go_at_call 37; (with_reducible refine (write_bytes _ _ _ _ _ HB2.out HL2.out H10.out (Nat.le_trans HBW.out HW2.out.size)).mono ?_); rintro e w3 ⟨rfl, hB3, hb3, ho3⟩; have HO3 : Hid (Oth w w3) := HO2.out.trans ho3; have HB3 : Hid (Bld B b t w3) := (by rw [← HT.out]; exact hB3); have HW3 : Hid (Below B w w3) := HW2.out.trans hb3; clear hB3 hb3 ho3))
  all_goals (go_end0; exact ⟨rfl, HB3.out, HW3.out, HO3.out⟩)
theorem itoa_t (n : Int) (w : World) (ht : Tab w) (h0 : 0 ≤ n) (h1 : n ≤ 2000000000) :
    Calls Tryd.prog 31 #[.int .i64 n] w fun e w' => e = .returned (.string (textS (decT n))) ∧ Below w.heap.size w w' := by
  have e : (⟨(Lib.itoa n).toArray⟩ : ByteArray) = textS (decT n) := by
    rw [itoa_nat h0]; rfl
  refine (Tryd.strconv_Itoa n (by omega) (by omega) w ht).mono ?_
  rw [e]
  rintro e w' ⟨rfl, k, os, rfl⟩
  exact ⟨rfl, below_grow _ _ _⟩
end Go.Proofs.YtbbjpdadickilaaDoor.Wt
namespace Go.Proofs.YtbbjpdadickilaaDoor.Pl
theorem fin_shown {f : Int} (h : finB f = true) : Wt.showR f = (textS (finT f), 0) := by
  by_cases e : f = 1000000001
  · subst e; rw [Wt.showR_inf]; rfl
  · simp [finB, inB, e] at h
    rw [Wt.showR_num (wtB_true.2 (.inr h)) e, itoa_nat h.1]
    unfold finT decT
    rw [if_neg e]
    rfl
end Go.Proofs.YtbbjpdadickilaaDoor.Pl
namespace Go.Proofs.YtbbjpdadickilaaDoor.Wt
open Go.ChangeShapes Go.WideShapes Go.ChangeAt Go.RowKit
open Go.Proofs.YtbbjpdadickilaaDoor.Pl
set_option linter.unusedVariables false
set_option linter.unusedSimpArgs false
/-- A line of words that were just laid. -/
theorem line_new (B b : Nat) (l : List UInt8) (xs : List ByteArray) (n : Nat) (cs : Array Value) (w : World) (hcs : cs = (xs.map Value.string).toArray) (h : Bld B b l w) (hn : xs.length = n) (hn5 : n ≤ 100) (hx : (lineP (xs.map (·.data.toList))).length ≤ 1000) (hl : l.length ≤ 500000) (hBw : B ≤ w.heap.size)
    (t : List UInt8) (ht : l ++ lineP (xs.map (·.data.toList)) ++ [10] = t) :
    Calls Tryd.prog 30 #[.pointer (some ⟨b, 0, none⟩), .slice (some ⟨w.heap.size, 0, none⟩) n n] (w.alloc (.cells cs 9)) fun e w' => e = .returned (.tuple #[]) ∧ (Bld B b t w' ∧ Below B w w' ∧ Oth w w') := by
  subst hcs
  have hA : Below w.heap.size w (w.alloc (.cells (xs.map Value.string).toArray 9)) := (Below.refl _ _).alloc (Nat.le_refl _) _
  refine (line_any B b l w.heap.size n xs n _ (h.later hA) (Wds.made w xs _) hn (Nat.le_refl _) hn5 hx hl (by simp; omega) t ht).mono ?_
  rintro e w' ⟨rfl, h1, h2, h3⟩
  exact ⟨rfl, h1, (hA.mono hBw).trans h2, (Oth.of hA).trans h3⟩
theorem start_any (B b : Nat) (l : List UInt8) (z : Int) (w : World) (h : Bld B b l w) (htab : Tab w) (h0 : -1 ≤ z) (h1 : z ≤ 60) (hl : l.length ≤ 400000) (hBw : B ≤ w.heap.size) (t : List UInt8) (ht : l ++ headT z = t) :
    Calls Tryd.prog 16 #[.pointer (some ⟨b, 0, none⟩), .int .i64 z] w fun e w' => e = .returned (.tuple #[]) ∧ (Bld B b t w' ∧ Below B w w' ∧ Oth w w') := by
  have hs : (startT z).length ≤ 10 := by
    unfold startT
    split
    · decide
    · exact dec_short (by omega)
  have HL : Hid (∀ W : World, Below w.heap.size w W → Calls Tryd.prog 30 #[.pointer (some ⟨b, 0, none⟩), .slice (some ⟨W.heap.size, 0, none⟩) 2 2] (W.alloc (.cells #[.string ⟨#[115, 116, 97, 114, 116]⟩, .string (textS (startT z))] 9)) fun e w' => e = .returned (.tuple #[]) ∧ (Bld B b t w' ∧ Below B W w' ∧ Oth W w')) := fun W hW =>
    line_new B b l [⟨#[115, 116, 97, 114, 116]⟩, textS (startT z)] 2 _ W rfl (h.later hW) rfl (by omega) (by
      show ([115, 116, 97, 114, 116] ++ [32] ++ startT z).length ≤ _
      simp; omega) (by omega) (Nat.le_trans hBw hW.size) t (by rw [← ht]; show _ = l ++ (lineP [wStart, startT z] ++ [10]); rw [← List.append_assoc]; rfl)
  by_cases hz : z < 0
  · have e : textS (startT z) = ⟨#[45]⟩ := by unfold startT; rw [if_pos hz]; rfl
    have HL2 : Hid (Calls Tryd.prog 30 #[.pointer (some ⟨b, 0, none⟩), .slice (some ⟨w.heap.size, 0, none⟩) 2 2] (w.alloc (.cells #[.string ⟨#[115, 116, 97, 114, 116]⟩, .string ⟨#[45]⟩] 9)) fun e w' => e = .returned (.tuple #[]) ∧ (Bld B b t w' ∧ Below B w w' ∧ Oth w w')) := by
      have := HL.out w (Below.refl _ _); rw [e] at this; exact this
    clear HL e hs ht h htab
    go_enter Tryd.func16, Tryd.ntmps16
    go_wp2_with (first | (go_at_call 30; (with_reducible refine HL2.out.mono ?_); rintro e w1 ⟨rfl, hB1, hb1, ho1⟩))
    refine bodyPost_ret (results_none rfl _ _ _) rfl ?_
    exact ⟨rfl, hB1, hb1, ho1⟩
  · have e : startT z = decT z := by unfold startT; rw [if_neg hz]
    have HI : Hid (Calls Tryd.prog 31 #[.int .i64 z] w fun e w' => e = .returned (.string (textS (startT z))) ∧ Below w.heap.size w w') := by
      have := itoa_t z w htab (by omega) (by omega); rw [← e] at this; exact this
    have HBW : Hid (B ≤ w.heap.size) := hBw
    clear e hs ht h htab
    generalize textS (startT z) = y at *
    go_enter Tryd.func16, Tryd.ntmps16
    go_wp2_with (first
      | (go_at_call 31; (with_reducible refine HI.out.mono ?_); rintro e w1 ⟨rfl, hb1⟩; have HB1 : Hid (Below w.heap.size w w1) := hb1; clear hb1)
      | (go_at_call 30; (with_reducible refine (HL.out _ HB1.out).mono ?_); rintro e w2 ⟨rfl, hB2, hb2, ho2⟩))
    go_end0
    exact ⟨rfl, hB2, (HB1.out.mono HBW.out).trans hb2, (Oth.of HB1.out).trans ho2⟩
theorem state_any (B b : Nat) (l : List UInt8) (f : Int) (w : World) (h : Bld B b l w) (htab : Tab w) (hf : finB f = true) (hl : l.length ≤ 400000) (hBw : B ≤ w.heap.size) (t : List UInt8) (ht : l ++ stT f = t) :
    Calls Tryd.prog 17 #[.pointer (some ⟨b, 0, none⟩), .int .i64 f] w fun e w' => e = .returned (.tuple #[]) ∧ (Bld B b t w' ∧ Below B w w' ∧ Oth w w') := by
  have hs := fin_short hf
  have HL : Hid (∀ W : World, Below w.heap.size w W → Calls Tryd.prog 30 #[.pointer (some ⟨b, 0, none⟩), .slice (some ⟨W.heap.size, 0, none⟩) 2 2] (W.alloc (.cells #[.string ⟨#[115, 116, 97, 116, 101]⟩, .string (textS (finT f))] 9)) fun e w' => e = .returned (.tuple #[]) ∧ (Bld B b t w' ∧ Below B W w' ∧ Oth W w')) := fun W hW =>
    line_new B b l [⟨#[115, 116, 97, 116, 101]⟩, textS (finT f)] 2 _ W rfl (h.later hW) rfl (by omega) (by
      show ([115, 116, 97, 116, 101] ++ [32] ++ finT f).length ≤ _
      simp; omega) (by omega) (Nat.le_trans hBw hW.size) t (by rw [← ht]; show _ = l ++ (lineP [wState, finT f] ++ [10]); rw [← List.append_assoc]; rfl)
  have HS : Hid (Calls Tryd.prog 32 #[.int .i64 f] w fun e w' => e = .returned (.tuple #[.string (textS (finT f)), .int .i64 0]) ∧ Below w.heap.size w w') := by
    have := show_any f w htab; rw [fin_shown hf] at this; exact this
  have HBW : Hid (B ≤ w.heap.size) := hBw
  clear hs ht h htab
  generalize textS (finT f) = y at *
  go_enter Tryd.func17, Tryd.ntmps17
  go_wp2_with (first
    | (go_at_call 32; (with_reducible refine HS.out.mono ?_); rintro e w1 ⟨rfl, hb1⟩; have HB1 : Hid (Below w.heap.size w w1) := hb1; clear hb1)
    | (go_at_call 30; (with_reducible refine (HL.out _ HB1.out).mono ?_); rintro e w2 ⟨rfl, hB2, hb2, ho2⟩))
  go_end0
  exact ⟨rfl, hB2, (HB1.out.mono HBW.out).trans hb2, (Oth.of HB1.out).trans ho2⟩
def HeldY (b : Nat) (x0 x1 x2 x3 : Int) (w : World) : Prop := w.cell? ⟨b, 0, none⟩ = some (.int .i64 x0) ∧ w.cell? ⟨b, 1, none⟩ = some (.int .i64 x1) ∧ w.cell? ⟨b, 2, none⟩ = some (.int .i64 x2) ∧ w.cell? ⟨b, 3, none⟩ = some (.int .i64 x3)
theorem HeldY.later {b : Nat} {x0 x1 x2 x3 : Int} {w w' : World} {B : Nat} (h : HeldY b x0 x1 x2 x3 w) (hb : Below B w w') (hB : b < B) : HeldY b x0 x1 x2 x3 w' := ⟨(hb.cell (p := ⟨b, 0, none⟩) hB).trans h.1, (hb.cell (p := ⟨b, 1, none⟩) hB).trans h.2.1, (hb.cell (p := ⟨b, 2, none⟩) hB).trans h.2.2.1, (hb.cell (p := ⟨b, 3, none⟩) hB).trans h.2.2.2⟩
set_option maxRecDepth 100000 in
set_option maxHeartbeats 1000000 in
theorem arc_any (B b : Nat) (l : List UInt8) (n : Nat) (a : Ar) (w : World) (h : Bld B b l w) (htab : Tab w) (hn : n ≤ 60) (ha : arcB n a = true) (hl : l.length ≤ 400000) (hBw : B ≤ w.heap.size) (t : List UInt8) (ht : l ++ arcT a = t) :
    Calls Tryd.prog 18 #[.pointer (some ⟨b, 0, none⟩), .agg #[.int .i64 a.1, .int .i64 a.2.1, .int .i64 a.2.2.1, .int .i64 a.2.2.2]] w fun e w' => e = .returned (.tuple #[]) ∧ (Bld B b t w' ∧ Below B w w' ∧ Oth w w') := by
  obtain ⟨x0, x1, x2, x3⟩ := a
  simp only [arcB, inB, Bool.and_eq_true, decide_eq_true_eq] at ha
  have l0 : (decT x0).length ≤ 10 := dec_short (by omega)
  have l1 : (decT x1).length ≤ 10 := dec_short (by omega)
  have l2 : (decT x2).length ≤ 10 := dec_short (by omega)
  have l3 : (decT x3).length ≤ 10 := dec_short (by omega)
  have HL : Hid (∀ W : World, Below w.heap.size w W → Calls Tryd.prog 30 #[.pointer (some ⟨b, 0, none⟩), .slice (some ⟨W.heap.size, 0, none⟩) 5 5] (W.alloc (.cells #[.string ⟨#[97, 114, 99]⟩, .string (textS (decT x3)), .string (textS (decT x0)), .string (textS (decT x1)), .string (textS (decT x2))] 9)) fun e w' => e = .returned (.tuple #[]) ∧ (Bld B b t w' ∧ Below B W w' ∧ Oth W w')) := fun W hW =>
    line_new B b l [⟨#[97, 114, 99]⟩, textS (decT x3), textS (decT x0), textS (decT x1), textS (decT x2)] 5 _ W rfl (h.later hW) rfl (by omega) (by
      show ([97, 114, 99] ++ [32] ++ (decT x3 ++ [32] ++ (decT x0 ++ [32] ++ (decT x1 ++ [32] ++ decT x2)))).length ≤ _
      simp; omega) (by omega) (Nat.le_trans hBw hW.size) t (by rw [← ht]; show _ = l ++ (lineP [wArc, decT x3, decT x0, decT x1, decT x2] ++ [10]); rw [← List.append_assoc]; rfl)
  have I0 : Hid (∀ W : World, Below w.heap.size w W → Calls Tryd.prog 31 #[.int .i64 x0] W fun e w' => e = .returned (.string (textS (decT x0))) ∧ Below W.heap.size W w') := fun W hW => itoa_t x0 W (htab.later hW) (by omega) (by omega)
  have I1 : Hid (∀ W : World, Below w.heap.size w W → Calls Tryd.prog 31 #[.int .i64 x1] W fun e w' => e = .returned (.string (textS (decT x1))) ∧ Below W.heap.size W w') := fun W hW => itoa_t x1 W (htab.later hW) (by omega) (by omega)
  have I2 : Hid (∀ W : World, Below w.heap.size w W → Calls Tryd.prog 31 #[.int .i64 x2] W fun e w' => e = .returned (.string (textS (decT x2))) ∧ Below W.heap.size W w') := fun W hW => itoa_t x2 W (htab.later hW) (by omega) (by omega)
  have I3 : Hid (∀ W : World, Below w.heap.size w W → Calls Tryd.prog 31 #[.int .i64 x3] W fun e w' => e = .returned (.string (textS (decT x3))) ∧ Below W.heap.size W w') := fun W hW => itoa_t x3 W (htab.later hW) (by omega) (by omega)
  have HBW : Hid (B ≤ w.heap.size) := hBw
  clear ht h htab l0 l1 l2 l3 ha
  simp only
  generalize textS (decT x0) = D0 at *
  generalize textS (decT x1) = D1 at *
  generalize textS (decT x2) = D2 at *
  generalize textS (decT x3) = D3 at *
  go_enter Tryd.func18, Tryd.ntmps18
  go_wp2
  have b1 := Blk.made w #[.int .i64 x0, .int .i64 x1, .int .i64 x2, .int .i64 x3] 52
  have HBD : Hid (Below w.heap.size w (w.alloc (.cells #[.int .i64 x0, .int .i64 x1, .int .i64 x2, .int .i64 x3] 52)).drew) := ((Below.refl _ _).alloc (Nat.le_refl _) _).drew
  have HSD : HeldY w.heap.size x0 x1 x2 x3 (w.alloc (.cells #[.int .i64 x0, .int .i64 x1, .int .i64 x2, .int .i64 x3] 52)).drew := ⟨b1.cell 0 rfl, b1.cell 1 rfl, b1.cell 2 rfl, b1.cell 3 rfl⟩
  have HZ : Hid (w.heap.size < (w.alloc (.cells #[.int .i64 x0, .int .i64 x1, .int .i64 x2, .int .i64 x3] 52)).drew.heap.size) := by show _ < (w.alloc (.cells #[.int .i64 x0, .int .i64 x1, .int .i64 x2, .int .i64 x3] 52)).heap.size; simp
  have HBb : Hid (Blk (w.alloc (.cells #[.int .i64 x0, .int .i64 x1, .int .i64 x2, .int .i64 x3] 52)).drew w.heap.size #[.int .i64 x0, .int .i64 x1, .int .i64 x2, .int .i64 x3] 52) := b1.drew
  clear b1
  refine region_anyL (HeldY w.heap.size x0 x1 x2 x3) 1000 (by kernel_rfl) ?_
  generalize (w.alloc (.cells #[.int .i64 x0, .int .i64 x1, .int .i64 x2, .int .i64 x3] 52)).drew = W0 at *
  refine anyL_take (i := 0) (v := ?v0_16) at0 (by kernel_rfl) (by kernel_rfl) (by kernel_rfl) (by kernel_rfl) (fun _ _ _ h => h) rfl ?y0_16 HSD ?r0_16
  case y0_16 => intro wx hx; obtain ⟨h1, h2, h3, h4⟩ := hx; go_simp; try (with_reducible rfl)
  simp only [Act.put, List.setIfInBounds_toArray, List.set_cons_zero, List.set_cons_succ]
  refine anyL_take (i := 1) (v := ?v1_17) (atS at0) (by kernel_rfl) (by kernel_rfl) (by kernel_rfl) (by kernel_rfl) (fun _ _ _ h => h) rfl ?y1_17 HSD ?r1_17
  case y1_17 => intro wx hx; obtain ⟨h1, h2, h3, h4⟩ := hx; go_simp; try (with_reducible rfl)
  simp only [Act.put, List.setIfInBounds_toArray, List.set_cons_zero, List.set_cons_succ]
  refine anyL_take (i := 2) (v := ?v2_18) (atS (atS at0)) (by kernel_rfl) (by kernel_rfl) (by kernel_rfl) (by kernel_rfl) (fun _ _ _ h => h) rfl ?y2_18 HSD ?r2_18
  case y2_18 => intro wx hx; obtain ⟨h1, h2, h3, h4⟩ := hx; go_simp; try (with_reducible rfl)
  simp only [Act.put, List.setIfInBounds_toArray, List.set_cons_zero, List.set_cons_succ]
  refine anyL_take (i := 4) (v := ?v4_19) (atS (atS (atS (atS at0)))) (by kernel_rfl) (by kernel_rfl) (by kernel_rfl) (by kernel_rfl) (fun _ _ _ h => h) rfl ?y4_19 HSD ?r4_19
  case y4_19 => intro wx hx; obtain ⟨h1, h2, h3, h4⟩ := hx; go_simp; try (with_reducible rfl)
  simp only [Act.put, List.setIfInBounds_toArray, List.set_cons_zero, List.set_cons_succ]
  refine anyL_take (i := 5) (v := ?v5_20) (atS (atS (atS (atS (atS at0))))) (by kernel_rfl) (by kernel_rfl) (by kernel_rfl) (by kernel_rfl) (fun _ _ _ h => h) rfl ?y5_20 HSD ?r5_20
  case y5_20 => intro wx hx; obtain ⟨h1, h2, h3, h4⟩ := hx; go_simp; try (with_reducible rfl)
  simp only [Act.put, List.setIfInBounds_toArray, List.set_cons_zero, List.set_cons_succ]
  refine anyL_take (i := 7) (v := ?v7_21) (atS (atS (atS (atS (atS (atS (atS at0))))))) (by kernel_rfl) (by kernel_rfl) (by kernel_rfl) (by kernel_rfl) (fun _ _ _ h => h) rfl ?y7_21 HSD ?r7_21
  case y7_21 => intro wx hx; obtain ⟨h1, h2, h3, h4⟩ := hx; go_simp; try (with_reducible rfl)
  simp only [Act.put, List.setIfInBounds_toArray, List.set_cons_zero, List.set_cons_succ]
  refine anyL_take (i := 8) (v := ?v8_22) (atS (atS (atS (atS (atS (atS (atS (atS at0)))))))) (by kernel_rfl) (by kernel_rfl) (by kernel_rfl) (by kernel_rfl) (fun _ _ _ h => h) rfl ?y8_22 HSD ?r8_22
  case y8_22 => intro wx hx; obtain ⟨h1, h2, h3, h4⟩ := hx; go_simp; try (with_reducible rfl)
  simp only [Act.put, List.setIfInBounds_toArray, List.set_cons_zero, List.set_cons_succ]
  refine anyL_take (i := 10) (v := ?v10_23) (atS (atS (atS (atS (atS (atS (atS (atS (atS (atS at0)))))))))) (by kernel_rfl) (by kernel_rfl) (by kernel_rfl) (by kernel_rfl) (fun _ _ _ h => h) rfl ?y10_23 HSD ?r10_23
  case y10_23 => intro wx hx; obtain ⟨h1, h2, h3, h4⟩ := hx; go_simp; try (with_reducible rfl)
  simp only [Act.put, List.setIfInBounds_toArray, List.set_cons_zero, List.set_cons_succ]
  refine anyL_take (i := 11) (v := ?v11_24) (atS (atS (atS (atS (atS (atS (atS (atS (atS (atS (atS at0))))))))))) (by kernel_rfl) (by kernel_rfl) (by kernel_rfl) (by kernel_rfl) (fun _ _ _ h => h) rfl ?y11_24 HSD ?r11_24
  case y11_24 => intro wx hx; obtain ⟨h1, h2, h3, h4⟩ := hx; go_simp; try (with_reducible rfl)
  simp only [Act.put, List.setIfInBounds_toArray, List.set_cons_zero, List.set_cons_succ]
  refine anyL_one (i := 3) (atS (atS (atS at0))) (by kernel_rfl) rfl (fun K hK => ?_)
  go_simp
  refine (I3.out _ HBD.out).mono ?_
  rintro e w3 ⟨rfl, hbc⟩
  have HS3 : HeldY w.heap.size x0 x1 x2 x3 w3 := HSD.later hbc HZ.out
  have HB3 : Hid (Below w.heap.size w w3) := HBD.out.trans (hbc.mono HBD.out.size)
  have HB3b : Hid (Blk w3 w.heap.size #[.int .i64 x0, .int .i64 x1, .int .i64 x2, .int .i64 x3] 52) := HBb.out.below hbc HZ.out
  have HZ3 : Hid (w.heap.size < w3.heap.size) := Nat.lt_of_lt_of_le HZ.out hbc.size
  refine hK _ _ (.inr HS3) ?_
  try simp only [Act.put, List.setIfInBounds_toArray, List.set_cons_zero, List.set_cons_succ]
  clear hbc
  refine anyL_one (i := 6) (atS (atS (atS (atS (atS (atS at0)))))) (by kernel_rfl) rfl (fun K hK => ?_)
  go_simp
  refine (I0.out _ HB3.out).mono ?_
  rintro e w4 ⟨rfl, hbc⟩
  have HS4 : HeldY w.heap.size x0 x1 x2 x3 w4 := HS3.later hbc HZ3.out
  have HB4 : Hid (Below w.heap.size w w4) := HB3.out.trans (hbc.mono HB3.out.size)
  have HB4b : Hid (Blk w4 w.heap.size #[.int .i64 x0, .int .i64 x1, .int .i64 x2, .int .i64 x3] 52) := HB3b.out.below hbc HZ3.out
  have HZ4 : Hid (w.heap.size < w4.heap.size) := Nat.lt_of_lt_of_le HZ3.out hbc.size
  refine hK _ _ (.inr HS4) ?_
  try simp only [Act.put, List.setIfInBounds_toArray, List.set_cons_zero, List.set_cons_succ]
  clear hbc
  refine anyL_one (i := 9) (atS (atS (atS (atS (atS (atS (atS (atS (atS at0))))))))) (by kernel_rfl) rfl (fun K hK => ?_)
  go_simp
  refine (I1.out _ HB4.out).mono ?_
  rintro e w5 ⟨rfl, hbc⟩
  have HS5 : HeldY w.heap.size x0 x1 x2 x3 w5 := HS4.later hbc HZ4.out
  have HB5 : Hid (Below w.heap.size w w5) := HB4.out.trans (hbc.mono HB4.out.size)
  have HB5b : Hid (Blk w5 w.heap.size #[.int .i64 x0, .int .i64 x1, .int .i64 x2, .int .i64 x3] 52) := HB4b.out.below hbc HZ4.out
  have HZ5 : Hid (w.heap.size < w5.heap.size) := Nat.lt_of_lt_of_le HZ4.out hbc.size
  refine hK _ _ (.inr HS5) ?_
  try simp only [Act.put, List.setIfInBounds_toArray, List.set_cons_zero, List.set_cons_succ]
  clear hbc
  refine anyL_one (i := 12) (atS (atS (atS (atS (atS (atS (atS (atS (atS (atS (atS (atS at0)))))))))))) (by kernel_rfl) rfl (fun K hK => ?_)
  go_simp
  refine (I2.out _ HB5.out).mono ?_
  rintro e w6 ⟨rfl, hbc⟩
  have HS6 : HeldY w.heap.size x0 x1 x2 x3 w6 := HS5.later hbc HZ5.out
  have HB6 : Hid (Below w.heap.size w w6) := HB5.out.trans (hbc.mono HB5.out.size)
  have HB6b : Hid (Blk w6 w.heap.size #[.int .i64 x0, .int .i64 x1, .int .i64 x2, .int .i64 x3] 52) := HB5b.out.below hbc HZ5.out
  have HZ6 : Hid (w.heap.size < w6.heap.size) := Nat.lt_of_lt_of_le HZ5.out hbc.size
  refine hK _ _ (.inr HS6) ?_
  try simp only [Act.put, List.setIfInBounds_toArray, List.set_cons_zero, List.set_cons_succ]
  clear hbc
  refine anyL_one (i := 13) (atS (atS (atS (atS (atS (atS (atS (atS (atS (atS (atS (atS (atS at0))))))))))))) (by kernel_rfl) rfl (fun K hK => ?_)
  go_simp
  have HA : Hid (Below w6.heap.size w6 (w6.alloc (.cells #[.string ⟨#[97, 114, 99]⟩, .string D3, .string D0, .string D1, .string D2] 9))) := (Below.refl _ _).alloc (Nat.le_refl _) _
  refine hK _ _ (.inr (HS6.later HA.out HZ6.out)) ?_
  try simp only [Act.put, List.setIfInBounds_toArray, List.set_cons_zero, List.set_cons_succ]
  refine anyL_one (i := 14) (atS (atS (atS (atS (atS (atS (atS (atS (atS (atS (atS (atS (atS (atS at0)))))))))))))) (by kernel_rfl) rfl (fun K hK => ?_)
  go_simp
  refine (HL.out _ HB6.out).mono ?_
  rintro e w7 ⟨rfl, hB7, hb7, ho7⟩
  have HS7 : HeldY w.heap.size x0 x1 x2 x3 w7 := by
    have e7 := ho7 w.heap.size _ _ _ (HB6b.out) (by decide) (by decide)
    exact ⟨Blk.cell (t := 52) e7 0 rfl, Blk.cell (t := 52) e7 1 rfl, Blk.cell (t := 52) e7 2 rfl, Blk.cell (t := 52) e7 3 rfl⟩
  have HW7 : Hid (Below B w w7) := (HB6.out.mono HBW.out).trans hb7
  have HO7 : Hid (Oth w w7) := (Oth.of HB6.out).trans ho7
  refine hK _ _ (.inr HS7) (anyL_done (by kernel_rfl) (NoPanic.normal ?_))
  try simp only [Act.put, List.setIfInBounds_toArray, List.set_cons_zero, List.set_cons_succ]
  clear HS7 HS6 HS5 HS4 HS3 HSD
  go_wp2
  go_end0
  exact ⟨rfl, hB7, HW7.out, HO7.out⟩
end Go.Proofs.YtbbjpdadickilaaDoor.Wt
