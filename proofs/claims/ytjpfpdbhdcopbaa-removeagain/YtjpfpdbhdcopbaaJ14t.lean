/- slices.CompactFunc at arcs of the call's own. slices.CompactFunc at arcs of the call's own: the walk. slices.CompactFunc at arcs of the call's own: what it leaves. -/
import Derived.Test.YtjpfpdbhdcopbaaJ14s
import Derived.Laws.StructEq
import Derived.Lib.SliceRun
namespace Go.Proofs.Ytjpfpdbhdcopbaa.Wt
open Go.ChangeShapes Go.WideShapes Go.ChangeAt Go.RowKit
open Go.Proofs.Ytjpfpdbhdcopbaa.Pl
set_option linter.unusedVariables false
set_option linter.unusedSimpArgs false
theorem alike_any (x y : Ar) (w : World) (r : Bool) (hr : alikeB x y = r) : Calls Try.prog 42 #[.agg #[.int .i64 x.1, .int .i64 x.2.1, .int .i64 x.2.2.1, .int .i64 x.2.2.2], .agg #[.int .i64 y.1, .int .i64 y.2.1, .int .i64 y.2.2.1, .int .i64 y.2.2.2]] w fun e w' => e = .returned (.bool r) ∧ Below w.heap.size w w' := by
  subst hr
  obtain ⟨x0, x1, x2, x3⟩ := x
  obtain ⟨y0, y1, y2, y3⟩ := y
  simp only [alikeB]
  by_cases h0 : x0 = y0
  · subst h0
    by_cases h1 : x1 = y1
    · subst h1
      by_cases h3 : x3 = y3
      · subst h3
        go_enter Try.func42, Try.ntmps42
        go_wp2
        go_ret
        exact ⟨by simp, by go_grown⟩
      · have e3 : (x3 == y3) = false := by simpa using h3
        go_enter Try.func42, Try.ntmps42
        go_wp2
        go_ret
        exact ⟨by simp [h3], by go_grown⟩
    · have e1 : (x1 == y1) = false := by simpa using h1
      go_enter Try.func42, Try.ntmps42
      go_wp2
      go_ret
      exact ⟨by simp [h1], by go_grown⟩
  · have e0 : (x0 == y0) = false := by simpa using h0
    go_enter Try.func42, Try.ntmps42
    go_wp2
    go_ret
    exact ⟨by simp [h0], by go_grown⟩
/-- Cells of a block set one behind the other. -/
theorem setCells_blk {t : TypeId} {b : Nat} : ∀ (vs : List Value) (o : Nat) (w : World) (cur : Array Value), Blk w b cur t → ∃ cur', Blk (w.setCells b o vs) b cur' t ∧ cur'.size = cur.size ∧ (∀ i, i < o → cur'[i]? = cur[i]?) ∧ w.grownBy (w.setCells b o vs) (some b)
  | [], o, w, cur, h => ⟨cur, h, rfl, fun _ _ => rfl, World.grownBy.refl _ _⟩
  | v :: r, o, w, cur, h => by
    obtain ⟨cur', h1, h2, h3, h4⟩ := setCells_blk r (o + 1) (w.setCell ⟨b, o, none⟩ v) (cur.setIfInBounds o v) (h.set o v)
    refine ⟨cur', h1, by simpa using h2, fun i hi => ?_, ⟨h4.os, h4.tape, h4.output, ?_, fun k hk hne => ?_⟩⟩
    · rw [h3 i (by omega), Array.getElem?_setIfInBounds_ne (by omega)]
    · simp
    · have hk' : k < (w.setCell ⟨b, o, none⟩ v).heap.size := by simpa [World.setCell] using hk
      exact (h4.block k hk' hne).trans (Below.heap_setCell w _ _ k (by intro e; exact hne (by rw [e])))
/-- clear(s): s in a block of the call's own. -/
theorem run_clear_arcs {w : World} {b o n c : Nat} {cur : Array Value} (h : Blk w b cur 53) (hs : o + n * 4 ≤ cur.size) :
    ∃ w', (∀ ty, (Builtin.clear_ #[44] ty #[.slice (some ⟨b, o, none⟩) n c]).run Try.prog w = .ok (.tuple #[]) w') ∧ (∃ cur', Blk w' b cur' 53 ∧ cur'.size = cur.size ∧ (∀ i, i < o → cur'[i]? = cur[i]?)) ∧ w.grownBy w' (some b) := by
  have hv : ∀ w, (zeroValue 53).run Try.prog w = .ok (.agg #[.int .i64 0, .int .i64 0, .int .i64 0, .int .i64 0]) w := fun w => by kernel_rfl
  by_cases hn : n = 0
  · subst hn
    exact ⟨w, fun ty => by simp [Builtin.clear_, run_underlying Try.underlying44], ⟨cur, h, rfl, fun _ _ => rfl⟩, World.grownBy.refl _ _⟩
  · have hzl : (Builtin.zeroCells (Value.cells (.agg #[.int .i64 0, .int .i64 0, .int .i64 0, .int .i64 0])) n).toList.length = n * 4 := by
      simp [Builtin.zeroCells, Value.cells, Nat.mul_comm]
    have hst := run_storeCells_cells (P := Try.prog) b o (Builtin.zeroCells (Value.cells (.agg #[.int .i64 0, .int .i64 0, .int .i64 0, .int .i64 0])) n).toList 0 w (fun j hj => by
        rw [hzl] at hj
        unfold Blk at h
        simp [World.cell?, h]; omega) (fun j hj => h.fz _) (by
        intro v hv'
        have hm : v = .int .i64 0 := by
          simp [Builtin.zeroCells, Value.cells] at hv'
          obtain ⟨q, hq, hv'⟩ := hv'
          have h4 : q % 4 = 0 ∨ q % 4 = 1 ∨ q % 4 = 2 ∨ q % 4 = 3 := by omega
          rcases h4 with h | h | h | h <;> simp [h] at hv' <;> exact hv'.symm
        rw [hm]; rfl)
    simp only [Nat.add_zero] at hst
    obtain ⟨cur', h1, h2, h3, h4⟩ := setCells_blk (Builtin.zeroCells (Value.cells (.agg #[.int .i64 0, .int .i64 0, .int .i64 0, .int .i64 0])) n).toList o w cur h
    obtain ⟨m, rfl⟩ : ∃ m, n = m + 1 := ⟨n - 1, by omega⟩
    exact ⟨_, fun ty => by simp only [Builtin.clear_]; simp [run_underlying Try.underlying44, hv, hst], ⟨cur', h1, h2, h3⟩, h4⟩
end Go.Proofs.Ytjpfpdbhdcopbaa.Wt
namespace Go.Proofs.Ytjpfpdbhdcopbaa.Wt
open Go.ChangeShapes Go.WideShapes Go.ChangeAt Go.RowKit
open Go.Proofs.Ytjpfpdbhdcopbaa.Pl
set_option linter.unusedVariables false
set_option linter.unusedSimpArgs false
theorem wrapD {n : Int} (h0 : -9223372036854775808 ≤ n) (h1 : n ≤ 9223372036854775807) : IntKind.i64.wrap n = n := by
  have h64 : IntKind.i64.wrap n = if n % 18446744073709551616 ≥ 9223372036854775808 then n % 18446744073709551616 - 18446744073709551616 else n % 18446744073709551616 := by
    simp [IntKind.wrap, IntKind.bits, IntKind.signed]
  rw [h64]
  split <;> omega
/-- Four cells of an arc. -/
def Four (w : World) (b o : Nat) (a : Ar) : Prop := w.cell? ⟨b, o, none⟩ = some (.int .i64 a.1) ∧ w.cell? ⟨b, o + 1, none⟩ = some (.int .i64 a.2.1) ∧ w.cell? ⟨b, o + 2, none⟩ = some (.int .i64 a.2.2.1) ∧ w.cell? ⟨b, o + 3, none⟩ = some (.int .i64 a.2.2.2)
def HeldE (b o1 o2 : Nat) (x y : Ar) (w : World) : Prop := Four w b o1 x ∧ Four w b o2 y
theorem Four.later {w w' : World} {b o B : Nat} {a : Ar} (h : Four w b o a) (hb : Below B w w') (hB : b < B) : Four w' b o a := ⟨(hb.cell hB).trans h.1, (hb.cell hB).trans h.2.1, (hb.cell hB).trans h.2.2.1, (hb.cell hB).trans h.2.2.2⟩
/-- A row of arcs, and what lies behind it, in one block. -/
theorem blk_four {w : World} {g : Nat} {d : List Ar} {rest : List Value} (h : Blk w g (d.flatMap encA ++ rest).toArray 53) {j : Nat} (hj : j < d.length) : Four w g (j * 4) (el d j) := by
  have hl : (d.flatMap encA).length = d.length * 4 := flat_length encA_len d
  have hc : ∀ i, i < 4 → ∀ u, (encA (el d j))[i]? = some u → w.cell? ⟨g, j * 4 + i, none⟩ = some u := fun i hi u hu => by
    refine h.cell _ ?_
    rw [List.getElem?_toArray, List.getElem?_append_left (by rw [hl]; omega), flat_at encA_len d j hj i hi]
    exact hu
  exact ⟨hc 0 (by omega) _ rfl, hc 1 (by omega) _ rfl, hc 2 (by omega) _ rfl, hc 3 (by omega) _ rfl⟩
theorem set_arcC {d : List Ar} {rest : List Value} {k : Nat} (hk : k < d.length) (p : Ar) :
    ((((d.flatMap encA ++ rest).toArray.setIfInBounds (k * 4) (.int .i64 p.1)).setIfInBounds (k * 4 + 1) (.int .i64 p.2.1)).setIfInBounds (k * 4 + 2) (.int .i64 p.2.2.1)).setIfInBounds (k * 4 + 3) (.int .i64 p.2.2.2) = ((d.set k p).flatMap encA ++ rest).toArray := by
  apply Array.ext_getElem?
  intro t
  have hl : (d.flatMap encA).length = d.length * 4 := flat_length encA_len d
  have hl2 : ((d.set k p).flatMap encA).length = d.length * 4 := by rw [flat_length encA_len]; simp
  rw [Array.getElem?_setIfInBounds, Array.getElem?_setIfInBounds, Array.getElem?_setIfInBounds, Array.getElem?_setIfInBounds]
  simp only [List.getElem?_toArray, Array.size_setIfInBounds, List.size_toArray, List.length_append, hl]
  by_cases ht : t < d.length * 4
  · have he : t / 4 * 4 + t % 4 = t := by omega
    have h1 := flat_at encA_len d (t / 4) (by omega) (t % 4) (by omega)
    have h2 := flat_at encA_len (d.set k p) (t / 4) (by simp; omega) (t % 4) (by omega)
    rw [he] at h1 h2
    rw [List.getElem?_append_left (by omega), List.getElem?_append_left (by omega), h1, h2]
    by_cases hq : t / 4 = k
    · have hel : el (d.set k p) (t / 4) = p := by rw [hq, el_get (by simpa using hk)]; simp
      rw [hel]
      have h01 : t = k * 4 ∨ t = k * 4 + 1 ∨ t = k * 4 + 2 ∨ t = k * 4 + 3 := by omega
      rcases h01 with h | h | h | h
      · have e0 : t % 4 = 0 := by omega
        rw [if_neg (by omega), if_neg (by omega), if_neg (by omega), if_pos h.symm, if_pos (by omega), e0]; rfl
      · have e0 : t % 4 = 1 := by omega
        rw [if_neg (by omega), if_neg (by omega), if_pos h.symm, if_pos (by omega), e0]; rfl
      · have e0 : t % 4 = 2 := by omega
        rw [if_neg (by omega), if_pos h.symm, if_pos (by omega), e0]; rfl
      · have e0 : t % 4 = 3 := by omega
        rw [if_pos h.symm, if_pos (by omega), e0]; rfl
    · have hel : el (d.set k p) (t / 4) = el d (t / 4) := by simp [el, List.getElem?_set_ne (Ne.symm hq)]
      rw [hel, if_neg (by omega), if_neg (by omega), if_neg (by omega), if_neg (by omega)]
  · rw [if_neg (by omega), if_neg (by omega), if_neg (by omega), if_neg (by omega), List.getElem?_append_right (by omega), List.getElem?_append_right (by omega), hl, hl2]
theorem lightFrom_all {p : Ar} {l : List Ar} (h : ∀ j, j < l.length → alikeB (el l j) (el (p :: l) j) = false) : lightFrom p l = l := by
  induction l generalizing p with
  | nil => rfl
  | cons x l ih =>
    have h0 := h 0 (by simp)
    rw [el_zero, el_zero] at h0
    rw [lightFrom, h0, if_neg (by simp), ih]
    intro j hj
    have := h (j + 1) (by simpa using hj)
    rwa [el_succ, el_succ] at this
/-- No two neighbours alike: nothing goes. -/
theorem lightL_all {l : List Ar} (h : ∀ j, j + 1 < l.length → alikeB (el l (j + 1)) (el l j) = false) : lightL l = l := by
  cases l with
  | nil => rfl
  | cons a l =>
    rw [lightL, lightFrom_all]
    intro j hj
    have := h j (by simpa using hj)
    rwa [el_succ] at this
theorem light_first {l : List Ar} {d : Nat} (hd : d + 1 < l.length) (h : ∀ j, j < d → alikeB (el l (j + 1)) (el l j) = false) (ha : alikeB (el l (d + 1)) (el l d) = true) : l.take (d + 1) = lightL (l.take (d + 2)) := by
  rw [lightL_take hd, ha, if_pos rfl, List.append_nil, lightL_all]
  intro j hj
  rw [List.length_take] at hj
  rw [el_take (by omega), el_take (by omega)]
  exact h j (by omega)
/-- What is so while arcs are moved down. -/
structure Moved (l : List Ar) (K e kk : Nat) (dl : List Ar) : Prop where
  len : dl.length = l.length
  le : kk ≤ K + e
  take : dl.take kk = lightL (l.take (K + e + 1))
  high : ∀ j, K + e ≤ j → j < l.length → el dl j = el l j
theorem Moved.skip {l dl : List Ar} {K e kk : Nat} (h : Moved l K e kk dl) (hl : K + e + 1 < l.length) (ha : alikeB (el l (K + e + 1)) (el l (K + e)) = true) : Moved l K (e + 1) kk dl := by
  refine ⟨h.len, by have := h.le; omega, ?_, fun j hj hl => h.high j (by omega) hl⟩
  have := lightL_take (l := l) (k := K + e) hl
  rw [ha, if_pos rfl, List.append_nil] at this
  rw [show K + (e + 1) + 1 = K + e + 2 by omega, this]
  exact h.take
theorem Moved.keep {l dl : List Ar} {K e kk : Nat} (h : Moved l K e kk dl) (hl : K + e + 1 < l.length) (ha : alikeB (el l (K + e + 1)) (el l (K + e)) = false) : Moved l K (e + 1) (kk + 1) (dl.set kk (el l (K + e + 1))) := by
  have hle := h.le
  have hlen := h.len
  refine ⟨by simpa using h.len, by omega, ?_, fun j hj hl => ?_⟩
  · have := lightL_take (l := l) (k := K + e) hl
    rw [ha, if_neg (by simp)] at this
    rw [show K + (e + 1) + 1 = K + e + 2 by omega, this, ← h.take]
    rw [take_el (by rw [List.length_set]; omega), List.take_set_of_le (Nat.le_refl _), el_get (by rw [List.length_set]; omega)]
    simp
  · have hne : kk ≠ j := by omega
    have : el (dl.set kk (el l (K + e + 1))) j = el dl j := by simp [el, List.getElem?_set_ne hne]
    rw [this]
    exact h.high j (by omega) hl
/-- The row that is left. -/
theorem own_left {w : World} {base g cap kk : Nat} {l dl : List Ar} {rest : List Value} {cur : Array Value} (hb : base ≤ g) (hcap : cap ≤ maxLen) (hh : Blk w g cur 53) (hs : cur.size = cap * 4) (hkk : kk ≤ dl.length) (hcl : dl.length ≤ cap) (hc : ∀ i, i < kk * 4 → cur[i]? = (dl.flatMap encA ++ rest).toArray[i]?) (ht : dl.take kk = l) :
    w.ownsRow base 53 4 (.slice (some ⟨g, 0, none⟩) kk cap) l.length (l.flatMap encA) := by
  have hll : l.length = kk := by rw [← ht, List.length_take]; omega
  refine ⟨flat_length encA_len l, .inr ⟨g, cap, cur, by rw [hll], hb, hh, by omega, hcap, hs, ?_⟩⟩
  rw [hll]
  have hl : (dl.flatMap encA).length = dl.length * 4 := flat_length encA_len dl
  have hlf : (l.flatMap encA).length = kk * 4 := by rw [flat_length encA_len, hll]
  apply List.ext_getElem?
  intro t
  by_cases h : t < kk * 4
  · rw [List.getElem?_take_of_lt h, Array.getElem?_toList, hc t h, List.getElem?_toArray, List.getElem?_append_left (by omega)]
    have he : t / 4 * 4 + t % 4 = t := by omega
    have h1 := flat_at encA_len dl (t / 4) (by omega) (t % 4) (by omega)
    have h2 := flat_at encA_len l (t / 4) (by omega) (t % 4) (by omega)
    rw [he] at h1 h2
    rw [h1, h2, ← ht, el_take (by omega)]
  · rw [List.getElem?_eq_none (by simp; omega), List.getElem?_eq_none (by omega)]
end Go.Proofs.Ytjpfpdbhdcopbaa.Wt
namespace Go.Proofs.Ytjpfpdbhdcopbaa.Wt
open Go.ChangeShapes Go.WideShapes Go.ChangeAt Go.RowKit
open Go.Proofs.Ytjpfpdbhdcopbaa.Pl
set_option linter.unusedVariables false
set_option linter.unusedSimpArgs false
theorem below_undrewE {B : Nat} {w w' : World} (h : Below B w.drew w') : Below B w w' := ⟨h.os, h.tape, h.output, h.size, h.block⟩
theorem grown_trans {a b c : World} {r : Option Nat} (h : a.grownBy b r) (k : b.grownBy c r) : a.grownBy c r := ⟨k.os.trans h.os, k.tape.trans h.tape, k.output.trans h.output, Nat.le_trans h.size k.size, fun i hi hne => (k.block i (Nat.lt_of_lt_of_le hi h.size) hne).trans (h.block i hi hne)⟩
theorem grown_new {a b : World} {r : Option Nat} (hb : Below a.heap.size a b) : a.grownBy b r := ⟨hb.os, hb.tape, hb.output, hb.size, fun k hk _ => hb.block k hk⟩
theorem grown_set (w : World) (b o : Nat) (v : Value) : w.grownBy (w.setCell ⟨b, o, none⟩ v) (some b) := ⟨rfl, rfl, rfl, by simp [World.setCell], fun k _ hne => Below.heap_setCell w _ _ k (by intro e; exact hne (by rw [e]))⟩
set_option maxRecDepth 100000 in
set_option maxHeartbeats 3200000 in
theorem compact_two (base g cap : Nat) (l : List Ar) (rest : List Value) (w : World) (h2 : 2 ≤ l.length) (hl : l.length * 32 ≤ 140737488351232) (hbg : base ≤ g) (hcap : cap ≤ maxLen) (hlc : l.length ≤ cap) (hrest : (l.flatMap encA ++ rest).length = cap * 4) (hh : Blk w g (l.flatMap encA ++ rest).toArray 53) :
    Calls Try.prog 41 #[.slice (some ⟨g, 0, none⟩) l.length cap, .func (.func 42) #[] #[]] w fun e w' => ∃ v', e = .returned v' ∧ w'.ownsRow base 53 4 v' (lightL l).length ((lightL l).flatMap encA) ∧ w.grownBy w' (some g) := by
  have eg : ∀ ar W, (callFunc 42 ar).run Try.prog W = .ok (.enter 42 ar) W := enters_of Try.func42 (by kernel_rfl) rfl
  have HH : Hid (Blk w g (l.flatMap encA ++ rest).toArray 53) := hh
  have HRS : Hid ((l.flatMap encA ++ rest).length = cap * 4) := hrest
  have hgw : g < w.heap.size := hh.lt
  clear hh hrest
  generalize hn : l.length = n at *
  have HN : Hid (l.length = n) := hn
  clear hn
  have hn2 : ¬ (n : Int) < 2 := by omega
  unfold maxLen at hcap
  have hnot : ∀ (x : Bool) (w : World), (Op.unary .not (.bool x)).run Try.prog w = .ok (.bool (!x)) w := fun _ _ => rfl
  go_enter Try.func41, Try.ntmps41
  go_wp2
  go_loopw [5] (fun i wr => ∃ d : Nat, d + 1 ≤ n ∧ i = .int .i64 ((d + 1 : Nat) : Int) ∧ Hid (∀ j, j < d → alikeB (el l (j + 1)) (el l j) = false) ∧ Hid (Below w.heap.size w wr)) (fun i _ => n - (intOf i).toNat)
  case atStart => exact ⟨0, by omega, rfl, fun j hj => absurd hj (Nat.not_lt_zero _), Below.refl _ _⟩
  case round =>
    obtain ⟨d, hd, rfl, hok, hb⟩ := hrel
    by_cases hlt : d + 1 < n
    · have hbk : Blk wr g (l.flatMap encA ++ rest).toArray 53 := HH.out.below hb.out hgw
      have HS : HeldE g ((d + 1) * 4) (d * 4) (el l (d + 1)) (el l d) wr.drew := ⟨blk_four hbk (by rw [HN.out]; omega), blk_four hbk (by rw [HN.out]; omega)⟩
      have k1 : (0 : Int) ≤ (d : Int) + 1 := by omega
      have k2 : (d : Int) + 1 < (n : Int) := by omega
      have k3 : (0 : Int) ≤ (d : Int) := by omega
      have k4 : (d : Int) < (n : Int) := by omega
      have k5 : IntKind.i64.wrap (d : Int) = (d : Int) := wrapD (by omega) (by omega)
      rcases bool_cases' (alikeB (el l (d + 1)) (el l d)) with ha | ha
      · have HA : Hid (alikeB (el l (d + 1)) (el l d) = true) := ha
        clear ha
        go_wp2
        refine region_anyL (HeldE g ((d + 1) * 4) (d * 4) (el l (d + 1)) (el l d)) 1000 (by kernel_rfl) ?_
        refine anyL_take (i := 0) (v := ?v0_1) at0 (by kernel_rfl) (by kernel_rfl) (by kernel_rfl) (by kernel_rfl) (fun _ _ _ h => h) rfl ?y0_1 HS ?r0_1
        case y0_1 => intro wx hx; obtain ⟨⟨x0, x1, x2, x3⟩, ⟨y0, y1, y2, y3⟩⟩ := hx; go_simp; try (with_reducible rfl)
        simp only [Act.put, List.setIfInBounds_toArray, List.set_cons_zero, List.set_cons_succ]
        refine anyL_take (i := 1) (v := ?v1_2) (atS at0) (by kernel_rfl) (by kernel_rfl) (by kernel_rfl) (by kernel_rfl) (fun _ _ _ h => h) rfl ?y1_2 HS ?r1_2
        case y1_2 => intro wx hx; obtain ⟨⟨x0, x1, x2, x3⟩, ⟨y0, y1, y2, y3⟩⟩ := hx; go_simp; try (with_reducible rfl)
        simp only [Act.put, List.setIfInBounds_toArray, List.set_cons_zero, List.set_cons_succ]
        refine anyL_take (i := 2) (v := ?v2_3) (atS (atS at0)) (by kernel_rfl) (by kernel_rfl) (by kernel_rfl) (by kernel_rfl) (fun _ _ _ h => h) rfl ?y2_3 HS ?r2_3
        case y2_3 => intro wx hx; obtain ⟨⟨x0, x1, x2, x3⟩, ⟨y0, y1, y2, y3⟩⟩ := hx; go_simp; try (with_reducible rfl)
        simp only [Act.put, List.setIfInBounds_toArray, List.set_cons_zero, List.set_cons_succ]
        refine anyL_take (i := 3) (v := ?v3_4) (atS (atS (atS at0))) (by kernel_rfl) (by kernel_rfl) (by kernel_rfl) (by kernel_rfl) (fun _ _ _ h => h) rfl ?y3_4 HS ?r3_4
        case y3_4 => intro wx hx; obtain ⟨⟨x0, x1, x2, x3⟩, ⟨y0, y1, y2, y3⟩⟩ := hx; go_simp; try (with_reducible rfl)
        simp only [Act.put, List.setIfInBounds_toArray, List.set_cons_zero, List.set_cons_succ]
        refine anyL_take (i := 4) (v := ?v4_5) (atS (atS (atS (atS at0)))) (by kernel_rfl) (by kernel_rfl) (by kernel_rfl) (by kernel_rfl) (fun _ _ _ h => h) rfl ?y4_5 HS ?r4_5
        case y4_5 => intro wx hx; obtain ⟨⟨x0, x1, x2, x3⟩, ⟨y0, y1, y2, y3⟩⟩ := hx; go_simp; try (with_reducible rfl)
        simp only [Act.put, List.setIfInBounds_toArray, List.set_cons_zero, List.set_cons_succ]
        refine anyL_take (i := 5) (v := ?v5_6) (atS (atS (atS (atS (atS at0))))) (by kernel_rfl) (by kernel_rfl) (by kernel_rfl) (by kernel_rfl) (fun _ _ _ h => h) rfl ?y5_6 HS ?r5_6
        case y5_6 => intro wx hx; obtain ⟨⟨x0, x1, x2, x3⟩, ⟨y0, y1, y2, y3⟩⟩ := hx; go_simp; try (with_reducible rfl)
        simp only [Act.put, List.setIfInBounds_toArray, List.set_cons_zero, List.set_cons_succ]
        refine anyL_take (i := 6) (v := ?v6_7) (atS (atS (atS (atS (atS (atS at0)))))) (by kernel_rfl) (by kernel_rfl) (by kernel_rfl) (by kernel_rfl) (fun _ _ _ h => h) rfl ?y6_7 HS ?r6_7
        case y6_7 => intro wx hx; obtain ⟨⟨x0, x1, x2, x3⟩, ⟨y0, y1, y2, y3⟩⟩ := hx; go_simp; try (with_reducible rfl)
        simp only [Act.put, List.setIfInBounds_toArray, List.set_cons_zero, List.set_cons_succ]
        refine anyL_take (i := 7) (v := ?v7_8) (atS (atS (atS (atS (atS (atS (atS at0))))))) (by kernel_rfl) (by kernel_rfl) (by kernel_rfl) (by kernel_rfl) (fun _ _ _ h => h) rfl ?y7_8 HS ?r7_8
        case y7_8 => intro wx hx; obtain ⟨⟨x0, x1, x2, x3⟩, ⟨y0, y1, y2, y3⟩⟩ := hx; go_simp; try (with_reducible rfl)
        simp only [Act.put, List.setIfInBounds_toArray, List.set_cons_zero, List.set_cons_succ]
        refine anyL_take (i := 8) (v := ?v8_9) (atS (atS (atS (atS (atS (atS (atS (atS at0)))))))) (by kernel_rfl) (by kernel_rfl) (by kernel_rfl) (by kernel_rfl) (fun _ _ _ h => h) rfl ?y8_9 HS ?r8_9
        case y8_9 => intro wx hx; obtain ⟨⟨x0, x1, x2, x3⟩, ⟨y0, y1, y2, y3⟩⟩ := hx; go_simp; try (with_reducible rfl)
        simp only [Act.put, List.setIfInBounds_toArray, List.set_cons_zero, List.set_cons_succ]
        refine anyL_take (i := 9) (v := ?v9_10) (atS (atS (atS (atS (atS (atS (atS (atS (atS at0))))))))) (by kernel_rfl) (by kernel_rfl) (by kernel_rfl) (by kernel_rfl) (fun _ _ _ h => h) rfl ?y9_10 HS ?r9_10
        case y9_10 => intro wx hx; obtain ⟨⟨x0, x1, x2, x3⟩, ⟨y0, y1, y2, y3⟩⟩ := hx; go_simp; try (with_reducible rfl)
        simp only [Act.put, List.setIfInBounds_toArray, List.set_cons_zero, List.set_cons_succ]
        refine anyL_one (i := 10) (atS (atS (atS (atS (atS (atS (atS (atS (atS (atS at0)))))))))) (by kernel_rfl) rfl (fun K hK => ?_)
        go_simp
        refine (alike_any _ _ _ true HA.out).mono ?_
        rintro e w1 ⟨rfl, hb1⟩
        have hbA := below_undrewE hb1
        have HS1 : HeldE g ((d + 1) * 4) (d * 4) (el l (d + 1)) (el l d) w1 := ⟨HS.1.later hb1 (Nat.lt_of_lt_of_le hgw hb.out.size), HS.2.later hb1 (Nat.lt_of_lt_of_le hgw hb.out.size)⟩
        have HB1 : Hid (Below w.heap.size w w1) := hb.out.trans (hbA.mono hb.out.size)
        refine hK _ _ (.inr HS1) ?_
        try simp only [Act.put, List.setIfInBounds_toArray, List.set_cons_zero, List.set_cons_succ]
        refine anyL_done (by kernel_rfl) (NoPanic.normal ?_)
        clear HS HS1 hbA hb1 hbk
        go_wp2
        clear k1 k2 k3 k4 k5
        go_loopw [5, 7] (fun i5 i7 wr => ∃ (e kk : Nat) (dl : List Ar), d + 1 + e + 1 ≤ n ∧ i5 = .int .i64 (kk : Int) ∧ i7 = .int .i64 ((e + 1 : Nat) : Int) ∧ Hid (Moved l (d + 1) e kk dl) ∧ Hid (Blk wr g (dl.flatMap encA ++ rest).toArray 53) ∧ Hid (w.grownBy wr (some g))) (fun _ i7 _ => n - (intOf i7).toNat)
        case atStart => exact ⟨0, d + 1, l, by omega, by go_num, rfl, ⟨rfl, by omega, light_first (by rw [HN.out]; exact hlt) hok.out HA.out, fun _ _ _ => rfl⟩, HH.out.below HB1.out hgw, grown_new HB1.out⟩
        case round =>
          obtain ⟨e, kk, dl, he, rfl, rfl, hm, hbq, hg⟩ := hrel
          have hkk := hm.out.le
          have hdl : dl.length = n := hm.out.len.trans HN.out
          by_cases hl2 : d + 1 + e + 1 < n
          · have f1 : Four wr g ((d + 1) * 4 + (e + 1) * 4) (el l (d + 1 + e + 1)) := by
              have := blk_four hbq.out (j := d + 1 + e + 1) (by omega)
              rw [hm.out.high _ (by omega) (by rw [HN.out]; exact hl2), show (d + 1 + e + 1) * 4 = (d + 1) * 4 + (e + 1) * 4 by omega] at this
              exact this
            have f2 : Four wr g ((d + 1) * 4 + e * 4) (el l (d + 1 + e)) := by
              have := blk_four hbq.out (j := d + 1 + e) (by omega)
              rw [hm.out.high _ (by omega) (by rw [HN.out]; omega), show (d + 1 + e) * 4 = (d + 1) * 4 + e * 4 by omega] at this
              exact this
            have HS : HeldE g ((d + 1) * 4 + (e + 1) * 4) ((d + 1) * 4 + e * 4) (el l (d + 1 + e + 1)) (el l (d + 1 + e)) wr.drew := ⟨f1, f2⟩
            have hgq : g < wr.heap.size := hbq.out.lt
            have k1 : (0 : Int) ≤ (e : Int) + 1 := by omega
            have k2 : (e : Int) + 1 < ((n - (d + 1) : Nat) : Int) := by omega
            have k3 : (0 : Int) ≤ (e : Int) := by omega
            have k4 : (e : Int) < ((n - (d + 1) : Nat) : Int) := by omega
            have k5 : IntKind.i64.wrap (e : Int) = (e : Int) := wrapD (by omega) (by omega)
            have k6 : (0 : Int) ≤ (kk : Int) := by omega
            have k7 : (kk : Int) < (n : Int) := by omega
            clear f1 f2
            rcases bool_cases' (alikeB (el l (d + 1 + e + 1)) (el l (d + 1 + e))) with hx | hx
            · have HX : Hid (alikeB (el l (d + 1 + e + 1)) (el l (d + 1 + e)) = true) := hx
              have HM2 : Hid (Moved l (d + 1) (e + 1) kk dl) := hm.out.skip (by rw [HN.out]; exact hl2) hx
              clear hx
              go_wp2
              refine region_anyL (HeldE g ((d + 1) * 4 + (e + 1) * 4) ((d + 1) * 4 + e * 4) (el l (d + 1 + e + 1)) (el l (d + 1 + e))) 1000 (by kernel_rfl) ?_
              refine anyL_take (i := 0) (v := ?v0_11) at0 (by kernel_rfl) (by kernel_rfl) (by kernel_rfl) (by kernel_rfl) (fun _ _ _ h => h) rfl ?y0_11 HS ?r0_11
              case y0_11 => intro wx hx; obtain ⟨⟨x0, x1, x2, x3⟩, ⟨y0, y1, y2, y3⟩⟩ := hx; go_simp; try (with_reducible rfl)
              simp only [Act.put, List.setIfInBounds_toArray, List.set_cons_zero, List.set_cons_succ]
              refine anyL_take (i := 1) (v := ?v1_12) (atS at0) (by kernel_rfl) (by kernel_rfl) (by kernel_rfl) (by kernel_rfl) (fun _ _ _ h => h) rfl ?y1_12 HS ?r1_12
              case y1_12 => intro wx hx; obtain ⟨⟨x0, x1, x2, x3⟩, ⟨y0, y1, y2, y3⟩⟩ := hx; go_simp; try (with_reducible rfl)
              simp only [Act.put, List.setIfInBounds_toArray, List.set_cons_zero, List.set_cons_succ]
              refine anyL_take (i := 2) (v := ?v2_13) (atS (atS at0)) (by kernel_rfl) (by kernel_rfl) (by kernel_rfl) (by kernel_rfl) (fun _ _ _ h => h) rfl ?y2_13 HS ?r2_13
              case y2_13 => intro wx hx; obtain ⟨⟨x0, x1, x2, x3⟩, ⟨y0, y1, y2, y3⟩⟩ := hx; go_simp; try (with_reducible rfl)
              simp only [Act.put, List.setIfInBounds_toArray, List.set_cons_zero, List.set_cons_succ]
              refine anyL_take (i := 3) (v := ?v3_14) (atS (atS (atS at0))) (by kernel_rfl) (by kernel_rfl) (by kernel_rfl) (by kernel_rfl) (fun _ _ _ h => h) rfl ?y3_14 HS ?r3_14
              case y3_14 => intro wx hx; obtain ⟨⟨x0, x1, x2, x3⟩, ⟨y0, y1, y2, y3⟩⟩ := hx; go_simp; try (with_reducible rfl)
              simp only [Act.put, List.setIfInBounds_toArray, List.set_cons_zero, List.set_cons_succ]
              refine anyL_take (i := 4) (v := ?v4_15) (atS (atS (atS (atS at0)))) (by kernel_rfl) (by kernel_rfl) (by kernel_rfl) (by kernel_rfl) (fun _ _ _ h => h) rfl ?y4_15 HS ?r4_15
              case y4_15 => intro wx hx; obtain ⟨⟨x0, x1, x2, x3⟩, ⟨y0, y1, y2, y3⟩⟩ := hx; go_simp; try (with_reducible rfl)
              simp only [Act.put, List.setIfInBounds_toArray, List.set_cons_zero, List.set_cons_succ]
              refine anyL_take (i := 5) (v := ?v5_16) (atS (atS (atS (atS (atS at0))))) (by kernel_rfl) (by kernel_rfl) (by kernel_rfl) (by kernel_rfl) (fun _ _ _ h => h) rfl ?y5_16 HS ?r5_16
              case y5_16 => intro wx hx; obtain ⟨⟨x0, x1, x2, x3⟩, ⟨y0, y1, y2, y3⟩⟩ := hx; go_simp; try (with_reducible rfl)
              simp only [Act.put, List.setIfInBounds_toArray, List.set_cons_zero, List.set_cons_succ]
              refine anyL_take (i := 6) (v := ?v6_17) (atS (atS (atS (atS (atS (atS at0)))))) (by kernel_rfl) (by kernel_rfl) (by kernel_rfl) (by kernel_rfl) (fun _ _ _ h => h) rfl ?y6_17 HS ?r6_17
              case y6_17 => intro wx hx; obtain ⟨⟨x0, x1, x2, x3⟩, ⟨y0, y1, y2, y3⟩⟩ := hx; go_simp; try (with_reducible rfl)
              simp only [Act.put, List.setIfInBounds_toArray, List.set_cons_zero, List.set_cons_succ]
              refine anyL_take (i := 7) (v := ?v7_18) (atS (atS (atS (atS (atS (atS (atS at0))))))) (by kernel_rfl) (by kernel_rfl) (by kernel_rfl) (by kernel_rfl) (fun _ _ _ h => h) rfl ?y7_18 HS ?r7_18
              case y7_18 => intro wx hx; obtain ⟨⟨x0, x1, x2, x3⟩, ⟨y0, y1, y2, y3⟩⟩ := hx; go_simp; try (with_reducible rfl)
              simp only [Act.put, List.setIfInBounds_toArray, List.set_cons_zero, List.set_cons_succ]
              refine anyL_take (i := 8) (v := ?v8_19) (atS (atS (atS (atS (atS (atS (atS (atS at0)))))))) (by kernel_rfl) (by kernel_rfl) (by kernel_rfl) (by kernel_rfl) (fun _ _ _ h => h) rfl ?y8_19 HS ?r8_19
              case y8_19 => intro wx hx; obtain ⟨⟨x0, x1, x2, x3⟩, ⟨y0, y1, y2, y3⟩⟩ := hx; go_simp; try (with_reducible rfl)
              simp only [Act.put, List.setIfInBounds_toArray, List.set_cons_zero, List.set_cons_succ]
              refine anyL_take (i := 9) (v := ?v9_20) (atS (atS (atS (atS (atS (atS (atS (atS (atS at0))))))))) (by kernel_rfl) (by kernel_rfl) (by kernel_rfl) (by kernel_rfl) (fun _ _ _ h => h) rfl ?y9_20 HS ?r9_20
              case y9_20 => intro wx hx; obtain ⟨⟨x0, x1, x2, x3⟩, ⟨y0, y1, y2, y3⟩⟩ := hx; go_simp; try (with_reducible rfl)
              simp only [Act.put, List.setIfInBounds_toArray, List.set_cons_zero, List.set_cons_succ]
              refine anyL_one (i := 10) (atS (atS (atS (atS (atS (atS (atS (atS (atS (atS at0)))))))))) (by kernel_rfl) rfl (fun K hK => ?_)
              go_simp
              refine (alike_any _ _ _ true HX.out).mono ?_
              rintro e' w2 ⟨rfl, hb2⟩
              have hbA := below_undrewE hb2
              have HS1 : HeldE g ((d + 1) * 4 + (e + 1) * 4) ((d + 1) * 4 + e * 4) (el l (d + 1 + e + 1)) (el l (d + 1 + e)) w2 := ⟨HS.1.later hb2 hgq, HS.2.later hb2 hgq⟩
              have HBQ : Hid (Blk w2 g (dl.flatMap encA ++ rest).toArray 53) := hbq.out.below hbA hgq
              have HG2 : Hid (w.grownBy w2 (some g)) := grown_trans hg.out (grown_new hbA)
              refine hK _ _ (.inr HS1) ?_
              try simp only [Act.put, List.setIfInBounds_toArray, List.set_cons_zero, List.set_cons_succ]
              refine anyL_take (i := 11) (v := ?v11_21) (atS (atS (atS (atS (atS (atS (atS (atS (atS (atS (atS at0))))))))))) (by kernel_rfl) (by kernel_rfl) (by kernel_rfl) (by kernel_rfl) (fun _ _ _ h => h) rfl ?y11_21 HS1 ?r11_21
              case y11_21 => intro wx hx; obtain ⟨⟨x0, x1, x2, x3⟩, ⟨y0, y1, y2, y3⟩⟩ := hx; go_simp; try (with_reducible rfl)
              simp only [Act.put, List.setIfInBounds_toArray, List.set_cons_zero, List.set_cons_succ]
              refine anyL_done (by kernel_rfl) (NoPanic.normal ?_)
              clear HS HS1 hbA hb2 hbq hg
              go_wp2
              go_roundw
              case rel => exact ⟨e + 1, kk, dl, by omega, rfl, by go_num, HM2, HBQ, HG2⟩
              case measure => simp [intOf]; omega
            · have HX : Hid (alikeB (el l (d + 1 + e + 1)) (el l (d + 1 + e)) = false) := hx
              have HM2 : Hid (Moved l (d + 1) (e + 1) (kk + 1) (dl.set kk (el l (d + 1 + e + 1)))) := hm.out.keep (by rw [HN.out]; exact hl2) hx
              clear hx
              go_wp2
              refine region_anyL (HeldE g ((d + 1) * 4 + (e + 1) * 4) ((d + 1) * 4 + e * 4) (el l (d + 1 + e + 1)) (el l (d + 1 + e))) 1000 (by kernel_rfl) ?_
              refine anyL_take (i := 0) (v := ?v0_22) at0 (by kernel_rfl) (by kernel_rfl) (by kernel_rfl) (by kernel_rfl) (fun _ _ _ h => h) rfl ?y0_22 HS ?r0_22
              case y0_22 => intro wx hx; obtain ⟨⟨x0, x1, x2, x3⟩, ⟨y0, y1, y2, y3⟩⟩ := hx; go_simp; try (with_reducible rfl)
              simp only [Act.put, List.setIfInBounds_toArray, List.set_cons_zero, List.set_cons_succ]
              refine anyL_take (i := 1) (v := ?v1_23) (atS at0) (by kernel_rfl) (by kernel_rfl) (by kernel_rfl) (by kernel_rfl) (fun _ _ _ h => h) rfl ?y1_23 HS ?r1_23
              case y1_23 => intro wx hx; obtain ⟨⟨x0, x1, x2, x3⟩, ⟨y0, y1, y2, y3⟩⟩ := hx; go_simp; try (with_reducible rfl)
              simp only [Act.put, List.setIfInBounds_toArray, List.set_cons_zero, List.set_cons_succ]
              refine anyL_take (i := 2) (v := ?v2_24) (atS (atS at0)) (by kernel_rfl) (by kernel_rfl) (by kernel_rfl) (by kernel_rfl) (fun _ _ _ h => h) rfl ?y2_24 HS ?r2_24
              case y2_24 => intro wx hx; obtain ⟨⟨x0, x1, x2, x3⟩, ⟨y0, y1, y2, y3⟩⟩ := hx; go_simp; try (with_reducible rfl)
              simp only [Act.put, List.setIfInBounds_toArray, List.set_cons_zero, List.set_cons_succ]
              refine anyL_take (i := 3) (v := ?v3_25) (atS (atS (atS at0))) (by kernel_rfl) (by kernel_rfl) (by kernel_rfl) (by kernel_rfl) (fun _ _ _ h => h) rfl ?y3_25 HS ?r3_25
              case y3_25 => intro wx hx; obtain ⟨⟨x0, x1, x2, x3⟩, ⟨y0, y1, y2, y3⟩⟩ := hx; go_simp; try (with_reducible rfl)
              simp only [Act.put, List.setIfInBounds_toArray, List.set_cons_zero, List.set_cons_succ]
              refine anyL_take (i := 4) (v := ?v4_26) (atS (atS (atS (atS at0)))) (by kernel_rfl) (by kernel_rfl) (by kernel_rfl) (by kernel_rfl) (fun _ _ _ h => h) rfl ?y4_26 HS ?r4_26
              case y4_26 => intro wx hx; obtain ⟨⟨x0, x1, x2, x3⟩, ⟨y0, y1, y2, y3⟩⟩ := hx; go_simp; try (with_reducible rfl)
              simp only [Act.put, List.setIfInBounds_toArray, List.set_cons_zero, List.set_cons_succ]
              refine anyL_take (i := 5) (v := ?v5_27) (atS (atS (atS (atS (atS at0))))) (by kernel_rfl) (by kernel_rfl) (by kernel_rfl) (by kernel_rfl) (fun _ _ _ h => h) rfl ?y5_27 HS ?r5_27
              case y5_27 => intro wx hx; obtain ⟨⟨x0, x1, x2, x3⟩, ⟨y0, y1, y2, y3⟩⟩ := hx; go_simp; try (with_reducible rfl)
              simp only [Act.put, List.setIfInBounds_toArray, List.set_cons_zero, List.set_cons_succ]
              refine anyL_take (i := 6) (v := ?v6_28) (atS (atS (atS (atS (atS (atS at0)))))) (by kernel_rfl) (by kernel_rfl) (by kernel_rfl) (by kernel_rfl) (fun _ _ _ h => h) rfl ?y6_28 HS ?r6_28
              case y6_28 => intro wx hx; obtain ⟨⟨x0, x1, x2, x3⟩, ⟨y0, y1, y2, y3⟩⟩ := hx; go_simp; try (with_reducible rfl)
              simp only [Act.put, List.setIfInBounds_toArray, List.set_cons_zero, List.set_cons_succ]
              refine anyL_take (i := 7) (v := ?v7_29) (atS (atS (atS (atS (atS (atS (atS at0))))))) (by kernel_rfl) (by kernel_rfl) (by kernel_rfl) (by kernel_rfl) (fun _ _ _ h => h) rfl ?y7_29 HS ?r7_29
              case y7_29 => intro wx hx; obtain ⟨⟨x0, x1, x2, x3⟩, ⟨y0, y1, y2, y3⟩⟩ := hx; go_simp; try (with_reducible rfl)
              simp only [Act.put, List.setIfInBounds_toArray, List.set_cons_zero, List.set_cons_succ]
              refine anyL_take (i := 8) (v := ?v8_30) (atS (atS (atS (atS (atS (atS (atS (atS at0)))))))) (by kernel_rfl) (by kernel_rfl) (by kernel_rfl) (by kernel_rfl) (fun _ _ _ h => h) rfl ?y8_30 HS ?r8_30
              case y8_30 => intro wx hx; obtain ⟨⟨x0, x1, x2, x3⟩, ⟨y0, y1, y2, y3⟩⟩ := hx; go_simp; try (with_reducible rfl)
              simp only [Act.put, List.setIfInBounds_toArray, List.set_cons_zero, List.set_cons_succ]
              refine anyL_take (i := 9) (v := ?v9_31) (atS (atS (atS (atS (atS (atS (atS (atS (atS at0))))))))) (by kernel_rfl) (by kernel_rfl) (by kernel_rfl) (by kernel_rfl) (fun _ _ _ h => h) rfl ?y9_31 HS ?r9_31
              case y9_31 => intro wx hx; obtain ⟨⟨x0, x1, x2, x3⟩, ⟨y0, y1, y2, y3⟩⟩ := hx; go_simp; try (with_reducible rfl)
              simp only [Act.put, List.setIfInBounds_toArray, List.set_cons_zero, List.set_cons_succ]
              refine anyL_one (i := 10) (atS (atS (atS (atS (atS (atS (atS (atS (atS (atS at0)))))))))) (by kernel_rfl) rfl (fun K hK => ?_)
              go_simp
              refine (alike_any _ _ _ false HX.out).mono ?_
              rintro e' w2 ⟨rfl, hb2⟩
              have hbA := below_undrewE hb2
              have HS1 : HeldE g ((d + 1) * 4 + (e + 1) * 4) ((d + 1) * 4 + e * 4) (el l (d + 1 + e + 1)) (el l (d + 1 + e)) w2 := ⟨HS.1.later hb2 hgq, HS.2.later hb2 hgq⟩
              have HBQ : Hid (Blk w2 g (dl.flatMap encA ++ rest).toArray 53) := hbq.out.below hbA hgq
              have HG2 : Hid (w.grownBy w2 (some g)) := grown_trans hg.out (grown_new hbA)
              refine hK _ _ (.inr HS1) ?_
              try simp only [Act.put, List.setIfInBounds_toArray, List.set_cons_zero, List.set_cons_succ]
              refine anyL_take (i := 11) (v := ?v11_32) (atS (atS (atS (atS (atS (atS (atS (atS (atS (atS (atS at0))))))))))) (by kernel_rfl) (by kernel_rfl) (by kernel_rfl) (by kernel_rfl) (fun _ _ _ h => h) rfl ?y11_32 HS1 ?r11_32
              case y11_32 => intro wx hx; obtain ⟨⟨x0, x1, x2, x3⟩, ⟨y0, y1, y2, y3⟩⟩ := hx; go_simp; try (with_reducible rfl)
              simp only [Act.put, List.setIfInBounds_toArray, List.set_cons_zero, List.set_cons_succ]
              refine anyL_done (by kernel_rfl) (NoPanic.normal ?_)
              obtain ⟨⟨p0, p1, p2, p3⟩, _⟩ := HS1
              obtain ⟨q0, q1, q2, q3⟩ := blk_four HBQ.out (j := kk) (by omega)
              have z0 := HBQ.out.fz (kk * 4)
              have z1 := HBQ.out.fz (kk * 4 + 1)
              have z2 := HBQ.out.fz (kk * 4 + 2)
              have z3 := HBQ.out.fz (kk * 4 + 3)
              generalize el l (d + 1 + e + 1) = p at *
              have RB : Hid (Blk ((((w2.setCell ⟨g, kk * 4, none⟩ (.int .i64 p.1)).setCell ⟨g, kk * 4 + 1, none⟩ (.int .i64 p.2.1)).setCell ⟨g, kk * 4 + 2, none⟩ (.int .i64 p.2.2.1)).setCell ⟨g, kk * 4 + 3, none⟩ (.int .i64 p.2.2.2)) g ((dl.set kk p).flatMap encA ++ rest).toArray 53) := by
                have h := (((HBQ.out.set (kk * 4) (.int .i64 p.1)).set (kk * 4 + 1) (.int .i64 p.2.1)).set (kk * 4 + 2) (.int .i64 p.2.2.1)).set (kk * 4 + 3) (.int .i64 p.2.2.2)
                rw [set_arcC (by omega)] at h
                exact h
              have RG : Hid (w.grownBy ((((w2.setCell ⟨g, kk * 4, none⟩ (.int .i64 p.1)).setCell ⟨g, kk * 4 + 1, none⟩ (.int .i64 p.2.1)).setCell ⟨g, kk * 4 + 2, none⟩ (.int .i64 p.2.2.1)).setCell ⟨g, kk * 4 + 3, none⟩ (.int .i64 p.2.2.2)) (some g)) := grown_trans (grown_trans (grown_trans (grown_trans HG2.out (grown_set _ _ _ _)) (grown_set _ _ _ _)) (grown_set _ _ _ _)) (grown_set _ _ _ _)
              clear HS hbA hb2 hbq hg
              go_wp2
              go_roundw
              case rel => exact ⟨e + 1, kk + 1, _, by omega, by go_num, by go_num, HM2, RB, RG⟩
              case measure => simp [intOf]; omega
          · have hde : d + 1 + e + 1 = n := by omega
            have hnl : ¬ (e : Int) + 1 < ((n - (d + 1) : Nat) : Int) := by omega
            have HT : Hid (dl.take kk = lightL l) := by
              have h := hm.out.take
              rw [hde, ← HN.out, List.take_length] at h
              exact h
            have k6 : (0 : Int) ≤ (kk : Int) := by omega
            have k7 : (kk : Int) ≤ (n : Int) := by omega
            have k8 : (kk : Int) ≤ (cap : Int) := by omega
            have hsz : (dl.flatMap encA ++ rest).toArray.size = cap * 4 := by
              have h := HRS.out
              rw [List.length_append, flat_length encA_len, HN.out] at h
              rw [List.size_toArray, List.length_append, flat_length encA_len, hdl]
              exact h
            obtain ⟨w3, hcl, ⟨cur, hc1, hc2, hc3⟩, hg3⟩ := run_clear_arcs (o := kk * 4) (n := n - kk) (c := cap - kk) hbq.out (by rw [hsz]; omega)
            have HO : Hid (w3.ownsRow base 53 4 (.slice (some ⟨g, 0, none⟩) kk cap) (lightL l).length ((lightL l).flatMap encA)) := own_left hbg (by unfold maxLen; exact hcap) hc1 (by rw [hc2, hsz]) (by omega) (by omega) hc3 HT.out
            have HG3 : Hid (w.grownBy w3 (some g)) := grown_trans hg.out hg3
            clear hde hc1 hc2 hc3 hg3 hbq hg hsz
            go_wp2
            go_ret
            exact ⟨_, rfl, HO.out, HG3.out⟩
      · have HA : Hid (alikeB (el l (d + 1)) (el l d) = false) := ha
        have HO : Hid (∀ j, j < d + 1 → alikeB (el l (j + 1)) (el l j) = false) := fun j hj => by
          by_cases e : j = d
          · subst e; exact ha
          · exact hok.out j (by omega)
        clear ha
        go_wp2
        refine region_anyL (HeldE g ((d + 1) * 4) (d * 4) (el l (d + 1)) (el l d)) 1000 (by kernel_rfl) ?_
        refine anyL_take (i := 0) (v := ?v0_33) at0 (by kernel_rfl) (by kernel_rfl) (by kernel_rfl) (by kernel_rfl) (fun _ _ _ h => h) rfl ?y0_33 HS ?r0_33
        case y0_33 => intro wx hx; obtain ⟨⟨x0, x1, x2, x3⟩, ⟨y0, y1, y2, y3⟩⟩ := hx; go_simp; try (with_reducible rfl)
        simp only [Act.put, List.setIfInBounds_toArray, List.set_cons_zero, List.set_cons_succ]
        refine anyL_take (i := 1) (v := ?v1_34) (atS at0) (by kernel_rfl) (by kernel_rfl) (by kernel_rfl) (by kernel_rfl) (fun _ _ _ h => h) rfl ?y1_34 HS ?r1_34
        case y1_34 => intro wx hx; obtain ⟨⟨x0, x1, x2, x3⟩, ⟨y0, y1, y2, y3⟩⟩ := hx; go_simp; try (with_reducible rfl)
        simp only [Act.put, List.setIfInBounds_toArray, List.set_cons_zero, List.set_cons_succ]
        refine anyL_take (i := 2) (v := ?v2_35) (atS (atS at0)) (by kernel_rfl) (by kernel_rfl) (by kernel_rfl) (by kernel_rfl) (fun _ _ _ h => h) rfl ?y2_35 HS ?r2_35
        case y2_35 => intro wx hx; obtain ⟨⟨x0, x1, x2, x3⟩, ⟨y0, y1, y2, y3⟩⟩ := hx; go_simp; try (with_reducible rfl)
        simp only [Act.put, List.setIfInBounds_toArray, List.set_cons_zero, List.set_cons_succ]
        refine anyL_take (i := 3) (v := ?v3_36) (atS (atS (atS at0))) (by kernel_rfl) (by kernel_rfl) (by kernel_rfl) (by kernel_rfl) (fun _ _ _ h => h) rfl ?y3_36 HS ?r3_36
        case y3_36 => intro wx hx; obtain ⟨⟨x0, x1, x2, x3⟩, ⟨y0, y1, y2, y3⟩⟩ := hx; go_simp; try (with_reducible rfl)
        simp only [Act.put, List.setIfInBounds_toArray, List.set_cons_zero, List.set_cons_succ]
        refine anyL_take (i := 4) (v := ?v4_37) (atS (atS (atS (atS at0)))) (by kernel_rfl) (by kernel_rfl) (by kernel_rfl) (by kernel_rfl) (fun _ _ _ h => h) rfl ?y4_37 HS ?r4_37
        case y4_37 => intro wx hx; obtain ⟨⟨x0, x1, x2, x3⟩, ⟨y0, y1, y2, y3⟩⟩ := hx; go_simp; try (with_reducible rfl)
        simp only [Act.put, List.setIfInBounds_toArray, List.set_cons_zero, List.set_cons_succ]
        refine anyL_take (i := 5) (v := ?v5_38) (atS (atS (atS (atS (atS at0))))) (by kernel_rfl) (by kernel_rfl) (by kernel_rfl) (by kernel_rfl) (fun _ _ _ h => h) rfl ?y5_38 HS ?r5_38
        case y5_38 => intro wx hx; obtain ⟨⟨x0, x1, x2, x3⟩, ⟨y0, y1, y2, y3⟩⟩ := hx; go_simp; try (with_reducible rfl)
        simp only [Act.put, List.setIfInBounds_toArray, List.set_cons_zero, List.set_cons_succ]
        refine anyL_take (i := 6) (v := ?v6_39) (atS (atS (atS (atS (atS (atS at0)))))) (by kernel_rfl) (by kernel_rfl) (by kernel_rfl) (by kernel_rfl) (fun _ _ _ h => h) rfl ?y6_39 HS ?r6_39
        case y6_39 => intro wx hx; obtain ⟨⟨x0, x1, x2, x3⟩, ⟨y0, y1, y2, y3⟩⟩ := hx; go_simp; try (with_reducible rfl)
        simp only [Act.put, List.setIfInBounds_toArray, List.set_cons_zero, List.set_cons_succ]
        refine anyL_take (i := 7) (v := ?v7_40) (atS (atS (atS (atS (atS (atS (atS at0))))))) (by kernel_rfl) (by kernel_rfl) (by kernel_rfl) (by kernel_rfl) (fun _ _ _ h => h) rfl ?y7_40 HS ?r7_40
        case y7_40 => intro wx hx; obtain ⟨⟨x0, x1, x2, x3⟩, ⟨y0, y1, y2, y3⟩⟩ := hx; go_simp; try (with_reducible rfl)
        simp only [Act.put, List.setIfInBounds_toArray, List.set_cons_zero, List.set_cons_succ]
        refine anyL_take (i := 8) (v := ?v8_41) (atS (atS (atS (atS (atS (atS (atS (atS at0)))))))) (by kernel_rfl) (by kernel_rfl) (by kernel_rfl) (by kernel_rfl) (fun _ _ _ h => h) rfl ?y8_41 HS ?r8_41
        case y8_41 => intro wx hx; obtain ⟨⟨x0, x1, x2, x3⟩, ⟨y0, y1, y2, y3⟩⟩ := hx; go_simp; try (with_reducible rfl)
        simp only [Act.put, List.setIfInBounds_toArray, List.set_cons_zero, List.set_cons_succ]
        refine anyL_take (i := 9) (v := ?v9_42) (atS (atS (atS (atS (atS (atS (atS (atS (atS at0))))))))) (by kernel_rfl) (by kernel_rfl) (by kernel_rfl) (by kernel_rfl) (fun _ _ _ h => h) rfl ?y9_42 HS ?r9_42
        case y9_42 => intro wx hx; obtain ⟨⟨x0, x1, x2, x3⟩, ⟨y0, y1, y2, y3⟩⟩ := hx; go_simp; try (with_reducible rfl)
        simp only [Act.put, List.setIfInBounds_toArray, List.set_cons_zero, List.set_cons_succ]
        refine anyL_one (i := 10) (atS (atS (atS (atS (atS (atS (atS (atS (atS (atS at0)))))))))) (by kernel_rfl) rfl (fun K hK => ?_)
        go_simp
        refine (alike_any _ _ _ false HA.out).mono ?_
        rintro e w1 ⟨rfl, hb1⟩
        have hbA := below_undrewE hb1
        have HS1 : HeldE g ((d + 1) * 4) (d * 4) (el l (d + 1)) (el l d) w1 := ⟨HS.1.later hb1 (Nat.lt_of_lt_of_le hgw hb.out.size), HS.2.later hb1 (Nat.lt_of_lt_of_le hgw hb.out.size)⟩
        have HB1 : Hid (Below w.heap.size w w1) := hb.out.trans (hbA.mono hb.out.size)
        refine hK _ _ (.inr HS1) ?_
        try simp only [Act.put, List.setIfInBounds_toArray, List.set_cons_zero, List.set_cons_succ]
        refine anyL_done (by kernel_rfl) (NoPanic.normal ?_)
        clear HS HS1 hbA hb1 hbk
        go_wp2
        go_roundw
        case rel => exact ⟨d + 1, by omega, by go_num, HO, HB1⟩
        case measure => simp [intOf]; omega
    · have hde : d + 1 = n := by omega
      have HL : Hid (lightL l = l) := lightL_all (fun j hj => hok.out j (by rw [HN.out] at hj; omega))
      have hnl : ¬ (d : Int) + 1 < (n : Int) := by omega
      have HO : Hid (wr.ownsRow base 53 4 (.slice (some ⟨g, 0, none⟩) n cap) l.length (l.flatMap encA)) := own_left (dl := l) (kk := n) (rest := rest) hbg (by unfold maxLen; exact hcap) (HH.out.below hb.out hgw) (by rw [List.size_toArray]; exact HRS.out) (by rw [HN.out]; exact Nat.le_refl _) (by rw [HN.out]; exact hlc) (fun _ _ => rfl) (by rw [← HN.out, List.take_length])
      clear hde
      go_wp2
      go_ret
      exact ⟨_, rfl, by rw [HL.out]; exact HO.out, grown_new hb.out⟩
end Go.Proofs.Ytjpfpdbhdcopbaa.Wt
