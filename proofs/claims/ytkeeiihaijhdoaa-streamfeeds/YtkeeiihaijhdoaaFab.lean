/- Slices of structs, and machines, that came in, read as lists. -/
import Derived.Test.YtkeeiihaijhdoaaFaa
import Derived.Deep.Slices
import Derived.Deep.Fields
import Derived.Test.YtkeeiihaijhdoaaRows
import Derived.WalkKit
import Derived.ProofKit
import Derived.Below
import Derived.WalkSmall
import Derived.Maps.OwnSet
import Derived.Laws.MakeOwn
import Derived.OpenShut
import Derived.SizedLaws
import Derived.Laws.AppendOwnNone
import Derived.BigQuiet
import Derived.Deep.QuietTactic
import Derived.OrdersHeld
import Derived.Deep.RegionHeld3
import Derived.BigRegion
namespace Go.Proofs.Ytkeeiihaijhdoaa.Wt
open Go.ChangeShapes Go.WideShapes Go.ChangeAt Go.RowKit
open Go.Proofs.Ytkeeiihaijhdoaa.Pl
set_option linter.unusedVariables false
section
variable {H : Type} {enc : TypeId × Value → H} {w : World} {base : Nat} {sp : Nat → Bool} {held : Bool}
theorem open_rows {P : Program} {t e : TypeId} {fs : Array Field} {fuel : Nat} {v : Value} {x : DataW H × List MemPlace} (ht : P.underlying t = some (.slice e)) (he : P.underlying e = some (.struct fs)) (hone : Go.Deep.oneCellFields P fs = true) (hce : P.cellsOf e = fs.size)
    (h : DataW.trod enc P w base sp held fuel t [v] = some x) :
    (v = .slice none 0 0 ∧ x = (.nil, [])) ∨
    ∃ (a : Addr) (len cap n : Nat) (V : Nat → Nat → Value) (Y : Nat → Nat → DataW H × List MemPlace) (rest : List (DataW H)), v = .slice (some a) len cap ∧ cap ≤ maxLen ∧ len ≤ cap ∧
      x.1 = .slice ((List.range len).map fun i => .agg ((List.range fs.size).map fun f => (Y i f).1)) rest ∧
      ∀ i, i < len → ∀ (f : Nat) fd, fs[f]? = some fd → w.cell? (a.add (i * fs.size + f)) = some (V i f) ∧ DataW.trod enc P w base sp held n fd.type [V i f] = some (Y i f) := by
  rcases Go.Deep.open_slice ht h with ⟨hcs, hx⟩ | ⟨a, len, cap, m, n, D, Pl, hcs, hb, hl, hm, hmm, hx, hc⟩
  · left; simp at hcs; exact ⟨hcs, hx⟩
  right
  simp at hcs
  have hlm : len ≤ m := by rw [hmm]; split <;> omega
  have each : ∀ i, i < len → ∃ q : (Nat → Value) × (Nat → DataW H × List MemPlace), D i = .agg ((List.range fs.size).map fun f => (q.2 f).1) ∧ ∀ (f : Nat) fd, fs[f]? = some fd → w.cell? (a.add (i * fs.size + f)) = some (q.1 f) ∧ DataW.trod enc P w base sp held (n - 1) fd.type [q.1 f] = some (q.2 f) := by
    intro i hi
    obtain ⟨cs', h1, h2⟩ := hc i (by omega)
    rw [hce] at h1
    obtain ⟨_, hlen, hcell⟩ := World.cells?_some h1
    obtain ⟨ys, k, hk, hxy, _, hyl, hf⟩ := DataW.trod_struct he h2
    obtain rfl : k = n - 1 := by omega
    refine ⟨(fun f => el cs' f, fun f => el ys f), ?_, ?_⟩
    · have h3 := congrArg Prod.fst hxy
      simp only at h3
      rw [h3]
      congr 1
      rw [Go.Deep.map_by_index ys default, hyl]
      rfl
    · intro f fd hfd
      have hfl : f < fs.size := by
        rcases Nat.lt_or_ge f fs.size with g | g
        · exact g
        · rw [Array.getElem?_eq_none g] at hfd; cases hfd
      obtain ⟨o0, k0⟩ := Go.Deep.hone_of hone f fd hfd
      have g1 := hcell f (by omega)
      rw [Go.Deep.add_add] at g1
      have g2 := hf f fd hfd
      rw [o0, k0] at g2
      have e1 : (cs'.drop f).take 1 = [el cs' f] := by
        rw [List.drop_eq_getElem_cons (by omega), el_get (by omega)]
        rfl
      rw [e1] at g2
      refine ⟨?_, ?_⟩
      · show w.cell? _ = some (el cs' f)
        rw [g1, List.getElem?_eq_getElem (by omega), el_get (by omega)]
      · show DataW.trod enc P w base sp held (n - 1) fd.type [el cs' f] = some (el ys f)
        rw [g2, List.getElem?_eq_getElem (by omega), el_get (by omega)]
  obtain ⟨q, hq⟩ := Go.Deep.choose_lt each
  refine ⟨a, len, cap, n - 1, fun i => (q i).1, fun i => (q i).2, (List.range (m - len)).map fun j => D (len + j), hcs, hm, hl, ?_, fun i hi => (hq i hi).2⟩
  rw [hx]
  simp only
  congr 1
  exact List.map_congr_left fun i hi => (hq i (by simpa using hi)).1
theorem weights_all {P : Program} {e : TypeId} {l : List (DataW H)} {d : DataW H} (h : d ∈ l) {n : Nat} (hn : n ∈ d.weights P e) : n ∈ DataW.weightsAll P e l := by
  induction l with
  | nil => simp at h
  | cons a l ih =>
    simp only [DataW.weightsAll, List.mem_append]
    rcases List.mem_cons.1 h with rfl | h
    · exact .inl hn
    · exact .inr (ih h)
def Fits (P : Program) (t : TypeId) (d : DataW H) : Prop := ∀ n ∈ d.weights P t, n ≤ reachBytes
theorem Fits.len {P : Program} {t e : TypeId} (ht : P.underlying t = some (.slice e)) {xs ys : List (DataW H)} (h : Fits P t (.slice xs ys)) : xs.length * P.bytesOf e ≤ reachBytes := by
 have := h ((xs.length + ys.length) * P.bytesOf e) (by simp [DataW.weights, ht])
 exact Nat.le_trans (Nat.mul_le_mul_right _ (by omega)) this
theorem Fits.elem {P : Program} {t e : TypeId} (ht : P.underlying t = some (.slice e)) {xs ys : List (DataW H)} (h : Fits P t (.slice xs ys)) {d : DataW H} (hd : d ∈ xs) : Fits P e d := by
 intro n hn
 exact h n (by simp only [DataW.weights, ht, List.mem_cons, List.mem_append]; exact .inr (.inl (weights_all hd hn)))
theorem Fits.field {P : Program} {t : TypeId} {fs : Array Field} (ht : P.underlying t = some (.struct fs)) {ds : List (DataW H)} (h : Fits P t (.agg ds)) {f : Nat} {fd : Field} (hf : fs[f]? = some fd) {d : DataW H} (hd : ds[f]? = some d) : Fits P fd.type d := by
 intro n hn
 refine h n ?_
 simp only [DataW.weights, ht]
 refine DataW.weights_mem_each (j := f) (t := fd.type) (d := d) ?_ hd n hn
 rw [List.getElem?_map, Array.getElem?_toList, hf]
 rfl
theorem Fits.arg {P : Program} {ts : List TypeId} {ds : List (DataW H)} (h : (DataW.weightsEach P ts ds).all (· ≤ reachBytes) = true) {j : Nat} {t : TypeId} {d : DataW H} (ht : ts[j]? = some t) (hd : ds[j]? = some d) : Fits P t d := by
 intro n hn
 have := List.all_eq_true.1 h n (DataW.weights_mem_each ht hd n hn)
 simpa using this
def wfA (a : Ar) : Prop := (Lit.int .i64 a.1).wf = true ∧ (Lit.int .i64 a.2.1).wf = true ∧ (Lit.int .i64 a.2.2.1).wf = true ∧ (Lit.int .i64 a.2.2.2).wf = true
theorem open_arcs {P : Program} {t e : TypeId} {f0 f1 f2 f3 : Field} {fuel : Nat} {v : Value} {x : DataW H × List MemPlace} (ht : P.underlying t = some (.slice e)) (he : P.underlying e = some (.struct #[f0, f1, f2, f3])) (hone : Go.Deep.oneCellFields P #[f0, f1, f2, f3] = true) (hce : P.cellsOf e = 4)
  (h0 : P.underlying f0.type = some (.int .i64)) (h1 : P.underlying f1.type = some (.int .i64)) (h2 : P.underlying f2.type = some (.int .i64)) (h3 : P.underlying f3.type = some (.int .i64)) (hby : P.bytesOf e = 32)
  (h : DataW.trod enc P w base sp held fuel t [v] = some x) (hf : Fits P t x.1) :
  ∃ l : List Ar, Arcs w v l ∧ (∀ a ∈ l, wfA a) ∧ l.length * 32 ≤ 140737488351232 := by
 rcases open_rows ht he hone hce h with ⟨hv, hx⟩ | ⟨a, len, cap, n, V, Y, rest, hv, hm, hl, hx, hc⟩
 ·exact ⟨[], .inl ⟨hv, rfl⟩, by simp, by simp⟩
 ·have key : ∀ i, i < len → ∃ y : Ar, w.cell? (a.add (i * 4)) = some (.int .i64 y.1) ∧ w.cell? (a.add (i * 4 + 1)) = some (.int .i64 y.2.1) ∧ w.cell? (a.add (i * 4 + 2)) = some (.int .i64 y.2.2.1) ∧ w.cell? (a.add (i * 4 + 3)) = some (.int .i64 y.2.2.2) ∧ wfA y := by
   intro i hi
   obtain ⟨c0, t0⟩ := hc i hi 0 f0 rfl
   obtain ⟨c1, t1⟩ := hc i hi 1 f1 rfl
   obtain ⟨c2, t2⟩ := hc i hi 2 f2 rfl
   obtain ⟨c3, t3⟩ := hc i hi 3 f3 rfl
   obtain ⟨q0, e0, _, w0⟩ := DataW.trod_int h0 t0
   obtain ⟨q1, e1, _, w1⟩ := DataW.trod_int h1 t1
   obtain ⟨q2, e2, _, w2⟩ := DataW.trod_int h2 t2
   obtain ⟨q3, e3, _, w3⟩ := DataW.trod_int h3 t3
   simp at e0 e1 e2 e3
   rw [e0] at c0; rw [e1] at c1; rw [e2] at c2; rw [e3] at c3
   exact ⟨(q0, q1, q2, q3), c0, c1, c2, c3, w0, w1, w2, w3⟩
  obtain ⟨y, hy⟩ := Go.Deep.choose_lt key
  have hlen : ((List.range len).map y).length = len := by simp
  refine ⟨(List.range len).map y, .inr ⟨a, cap, by rw [hlen]; exact hv, ?_⟩, ?_, ?_⟩
  ·intro j hj i u hu
   rw [hlen] at hj
   rw [el_range_map y hj] at hu
   obtain ⟨g0, g1, g2, g3, _⟩ := hy j hj
   match i, hu with
   | 0, hu => simp [encA] at hu; subst hu; exact g0
   | 1, hu => simp [encA] at hu; subst hu; exact g1
   | 2, hu => simp [encA] at hu; subst hu; exact g2
   | 3, hu => simp [encA] at hu; subst hu; exact g3
   | i + 4, hu => simp [encA] at hu
  ·intro p hp
   simp at hp
   obtain ⟨i, hi, rfl⟩ := hp
   exact (hy i hi).2.2.2.2
  ·rw [hx] at hf
   have := hf.len ht
   rw [hby] at this
   simpa [reachBytes] using this
theorem open_machine {fuel : Nat} {v0 v1 : Value} {y0 y1 : DataW H × List MemPlace}
  (h0 : DataW.trod enc Try.prog w base sp held fuel 3 [v0] = some y0) (h1 : DataW.trod enc Try.prog w base sp held fuel 22 [v1] = some y1) (hf : Fits Try.prog 22 y1.1) :
  ∃ m : Mc, Mach w (.agg #[v0, v1]) m ∧ okM m ∧ (Lit.int .i64 m.1).wf = true ∧ ∀ s ∈ m.2, (Lit.int .i64 s.1).wf = true ∧ ∀ a ∈ s.2, wfA a := by
 obtain ⟨z, e0, _, hz⟩ := DataW.trod_int Try.underlying3 h0
 simp at e0
 subst e0
 rcases open_rows Try.underlying22 Try.underlying58 (by kernel_rfl) (by kernel_rfl) h1 with ⟨hv, hx⟩ | ⟨a, len, cap, n, V, Y, rest, hv, hm, hl, hx, hc⟩
 ·refine ⟨(z, []), ⟨v1, rfl, [], .inl ⟨hv, rfl⟩, rfl, by simp⟩, ⟨by simp, by simp⟩, hz, by simp⟩
 ·have key : ∀ i, i < len → ∃ q : Value × St, w.cell? (a.add (i * 2)) = some (.int .i64 q.2.1) ∧ w.cell? (a.add (i * 2 + 1)) = some q.1 ∧ Arcs w q.1 q.2.2 ∧ (Lit.int .i64 q.2.1).wf = true ∧ (∀ a ∈ q.2.2, wfA a) ∧ q.2.2.length * 32 ≤ 140737488351232 := by
   intro i hi
   obtain ⟨c0, t0⟩ := hc i hi 0 _ rfl
   obtain ⟨c1, t1⟩ := hc i hi 1 _ rfl
   obtain ⟨q0, e0, _, w0⟩ := DataW.trod_int Try.underlying3 t0
   simp at e0
   rw [e0] at c0
   have hfi : Fits Try.prog 56 (Y i 1).1 := by
    rw [hx] at hf
    have hm : (.agg ((List.range 2).map fun f => (Y i f).1) : DataW H) ∈ (List.range len).map fun i => (.agg ((List.range 2).map fun f => (Y i f).1) : DataW H) := List.mem_map.2 ⟨i, List.mem_range.2 hi, rfl⟩
    exact (hf.elem Try.underlying22 hm).field Try.underlying58 (f := 1) rfl rfl
   obtain ⟨l, g1, g2, g3⟩ := open_arcs Try.underlying56 Try.underlying75 (by kernel_rfl) (by kernel_rfl) Try.underlying3 Try.underlying3 Try.underlying3 Try.underlying3 (by kernel_rfl) t1 hfi
   exact ⟨(V i 1, q0, l), c0, c1, g1, w0, g2, g3⟩
  obtain ⟨q, hq⟩ := Go.Deep.choose_lt key
  have hlen : ((List.range len).map fun i => (q i).2).length = len := by simp
  have hlen2 : ((List.range len).map fun i => ((q i).2.1, (q i).1)).length = len := by simp
  refine ⟨(z, (List.range len).map fun i => (q i).2), ⟨v1, rfl, (List.range len).map fun i => ((q i).2.1, (q i).1), .inr ⟨a, cap, by rw [hlen2]; exact hv, ?_⟩, by simp, ?_⟩, ⟨?_, ?_⟩, hz, ?_⟩
  ·intro j hj i u hu
   rw [hlen2] at hj
   rw [el_range_map _ hj] at hu
   obtain ⟨g0, g1, _⟩ := hq j hj
   match i, hu with
   | 0, hu => simp [encS] at hu; subst hu; exact g0
   | 1, hu => simp [encS] at hu; subst hu; exact g1
   | i + 2, hu => simp [encS] at hu
  ·intro j hj
   rw [hlen] at hj
   rw [el_range_map _ hj, el_range_map _ hj]
   exact ⟨rfl, (hq j hj).2.2.1⟩
  ·show ((List.range len).map fun i => (q i).2).length * 32 ≤ _
   rw [hlen]
   rw [hx] at hf
   have := hf.len Try.underlying22
   have hby : Try.prog.bytesOf 58 = 32 := by kernel_rfl
   rw [hby] at this
   simpa [reachBytes] using this
  ·intro j hj
   have hj' : j < len := by rw [← hlen]; exact hj
   show (el ((List.range len).map fun i => (q i).2) j).2.length * 32 ≤ _
   rw [el_range_map _ hj']
   exact (hq j hj').2.2.2.2.2
  ·intro s hs
   simp at hs
   obtain ⟨i, hi, rfl⟩ := hs
   exact ⟨(hq i hi).2.2.2.1, (hq i hi).2.2.2.2.1⟩
end
end Go.Proofs.Ytkeeiihaijhdoaa.Wt
namespace Go.Proofs.Ytkeeiihaijhdoaa.Wt
open Go.ChangeShapes Go.WideShapes Go.ChangeAt Go.RowKit
set_option linter.unusedVariables false
def Blk (w : World) (b : Nat) (cs : Array Value) (t : TypeId) : Prop := w.heap[b]? = some (.cells cs t (0, 0))
theorem Blk.lt {w : World} {b : Nat} {cs : Array Value} {t : TypeId} (h : Blk w b cs t) : b < w.heap.size := lt_of_block h
theorem Blk.cell {w : World} {b : Nat} {cs : Array Value} {t : TypeId} (h : Blk w b cs t) (i : Nat) {v : Value} (hv : cs[i]? = some v) : w.cell? ⟨b, i, none⟩ = some v := by
 unfold Blk at h; simp [World.cell?, h, hv]
theorem Blk.fz {w : World} {b : Nat} {cs : Array Value} {t : TypeId} (h : Blk w b cs t) (i : Nat) : w.frozen? ⟨b, i, none⟩ = false := by
 unfold Blk at h; simp [World.frozen?, h]
theorem Blk.set {w : World} {b : Nat} {cs : Array Value} {t : TypeId} (h : Blk w b cs t) (i : Nat) (v : Value) : Blk (w.setCell ⟨b, i, none⟩ v) b (cs.setIfInBounds i v) t := by
 unfold Blk at h ⊢
 show (w.heap.modify b _)[b]? = _
 rw [Array.getElem?_modify, if_pos rfl, h]
 rfl
theorem Blk.keep {w w' : World} {b : Nat} {cs : Array Value} {t : TypeId} (h : Blk w b cs t) (e : w'.heap[b]? = w.heap[b]?) : Blk w' b cs t := e.trans h
theorem Blk.setO {w : World} {b : Nat} {cs : Array Value} {t : TypeId} (h : Blk w b cs t) (a : Addr) (v : Value) (hn : b ≠ a.block) : Blk (w.setCell a v) b cs t := h.keep (Below.heap_setCell w a v b hn)
theorem Blk.alloc {w : World} {b : Nat} {cs : Array Value} {t : TypeId} (h : Blk w b cs t) (o : Obj) : Blk (w.alloc o) b cs t := h.keep (Below.heap_alloc w o b h.lt)
theorem Blk.drew {w : World} {b : Nat} {cs : Array Value} {t : TypeId} (h : Blk w b cs t) : Blk w.drew b cs t := h
theorem Blk.drewN {w : World} {b : Nat} {cs : Array Value} {t : TypeId} (h : Blk w b cs t) (n : Nat) : Blk (w.drewN n) b cs t := h
theorem Blk.below {w w' : World} {b B : Nat} {cs : Array Value} {t : TypeId} (h : Blk w b cs t) (hb : Below B w w') (hB : b < B) : Blk w' b cs t := h.keep (hb.block b hB)
theorem Blk.grown {w w' : World} {b : Nat} {cs : Array Value} {t : TypeId} {row : Option Nat} (h : Blk w b cs t) (hg : w.grownBy w' row) (hne : some b ≠ row) : Blk w' b cs t := h.keep (hg.block b h.lt hne)
theorem Blk.made (w : World) (cs : Array Value) (t : TypeId) : Blk (w.alloc (.cells cs t)) w.heap.size cs t := by
 show (w.heap.push _)[w.heap.size]? = _
 simp
theorem boxed {w w1 : World} {cs : Array Value} {t : TypeId} {n : Nat} (hb : Below n (w.alloc (.cells cs t)) w1) (hn : n = w.heap.size + 1) : w.heap.size + 1 ≤ w1.heap.size ∧ Blk w1 w.heap.size cs t ∧ Below w.heap.size w w1 := by
 subst hn
 have h := hb.size
 simp only [World.size_alloc] at h
 exact ⟨h, (Blk.made w cs t).below hb (by omega), ((Below.refl _ _).alloc (Nat.le_refl _) _).trans (hb.mono (by omega))⟩
end Go.Proofs.Ytkeeiihaijhdoaa.Wt
namespace Go.Proofs.Ytkeeiihaijhdoaa.Wt
open Go.ChangeShapes Go.WideShapes Go.ChangeAt Go.RowKit
open Go.Proofs.Ytkeeiihaijhdoaa.Pl
set_option linter.unusedVariables false
set_option linter.unusedSimpArgs false
def encI1 (x : Int) : List Value := [.int .i64 x]
theorem encI1_len (x : Int) : (encI1 x).length = 1 := rfl
theorem encI1_one (x : Int) : ∀ u ∈ encI1 x, u.oneCell' = true := by
 intro u hu
 simp [encI1] at hu
 subst hu; rfl
def Nums (w : World) (v : Value) (ks : List Int) : Prop := Row 1 encI1 w v ks
theorem Nums.later {w w' : World} {v : Value} {ks : List Int} (h : Nums w v ks) {B : Nat} (hb : Below B w w') (hB : w.heap.size ≤ B) : Nums w' v ks := Row.later h hb hB
theorem Nums.get {w : World} {v : Value} {bs : List Int} (h : Nums w v bs) : ∃ a cap, v = .slice a bs.length cap ∧ ∀ j, j < bs.length → ∃ b off, a = some ⟨b, off, none⟩ ∧ b < w.heap.size ∧ w.cell? ⟨b, off + j, none⟩ = some (.int .i64 (el bs j)) := by
 by_cases hz : 0 < bs.length
 ·obtain ⟨b, off, cap, hv, hb, hc⟩ := Row.plain h (fun x => by simp [encI1]) hz
  refine ⟨_, cap, hv, fun j hj => ⟨b, off, rfl, hb, ?_⟩⟩
  have := hc j hj 0 _ rfl
  rwa [Nat.mul_one, Nat.add_zero] at this
 ·obtain ⟨a, cap, hv⟩ := Row.sl h
  exact ⟨a, cap, hv, fun j hj => by omega⟩
theorem infoIntU : (Try.prog.info? 3).map (fun i => (i.zero, i.size, i.bytes)) = some (some (.int .i64 0), 1, 8) := by kernel_rfl
end Go.Proofs.Ytkeeiihaijhdoaa.Wt
namespace Go.Proofs.Ytkeeiihaijhdoaa.Wt
open Go.ChangeShapes Go.WideShapes Go.ChangeAt Go.RowKit
open Go.Proofs.Ytkeeiihaijhdoaa.Pl
set_option linter.unusedVariables false
def IsRow (k : IntKind) (w : World) (a : Option Addr) (len cap : Nat) (zs : List Int) : Prop :=
 (a = none ∧ len = 0 ∧ cap = 0 ∧ zs = []) ∨
 ∃ x, a = some x ∧ len ≤ cap ∧ cap ≤ maxLen ∧ zs.length = cap ∧ (∀ i, i < zs.length → w.cell? (x.add i) = some (.int k (zs.getD i 0))) ∧ ∀ n ∈ zs, (Lit.int k n).wf = true
end Go.Proofs.Ytkeeiihaijhdoaa.Wt
namespace Go.Proofs.Ytkeeiihaijhdoaa.Wt
open Go
section
variable {P : Program} {ops : Array Oper} {Q : Exit → Act → World → Prop} {md : Region.Mode} {S : World → Prop} {L : Nat}
def AnyL (P : Program) (md : Region.Mode) (ops : Array Oper) (Q : Exit → Act → World → Prop) (S : World → Prop) (L : Nat) : Nat → Array Bool → Act → World → Prop
  | 0, listed, a, w => Region.ready md ops listed = [] ∧ Q .normal a w
  | n + 1, listed, a, w => (Region.ready md ops listed = [] → Q .normal a w) ∧
      ∀ i ∈ Region.ready md ops listed, wpOp P ops Q i (fun b x => (i = L ∨ S x) ∧ AnyL P md ops Q S L n (listed.setIfInBounds i true) b x) a w
theorem AnyL.any : ∀ (n : Nat) (listed : Array Bool) (a : Act) (w : World), AnyL P md ops Q S L n listed a w → wpAny P md ops Q n listed a w
 | 0, _, _, _, h => h
 | n + 1, _, _, _, h => ⟨h.1, fun i hi => wpOp_mono (fun b x k => AnyL.any n _ b x k.2) (h.2 i hi)⟩
def waits (md : Region.Mode) (ops : Array Oper) (L i : Nat) : Bool := match ops[L]? with
 | some o => o.after.any fun e => Region.binds md e && e.on == i
 | none => true
theorem waits_spec {i : Nat} (h : waits md ops L i = true) {o : Oper} (ho : ops[L]? = some o) : ∃ e ∈ o.after, Region.binds md e = true ∧ e.on = i := by
 unfold waits at h
 rw [ho] at h
 obtain ⟨j, hj, h1⟩ := Array.any_eq_true.1 h
 simp only [Bool.and_eq_true, beq_iff_eq] at h1
 exact ⟨_, Array.getElem_mem hj, h1.1, h1.2⟩
theorem AnyL.first {i : Nat} {o : Oper} {v : Value} (hi : ops[i]? = some o) (hw : waits md ops L i = true) (hsel : ∀ (j : Nat) (p : Oper) cs d, ops[j]? = some p → p.op ≠ .select cs d) (hQ : ∀ c a w, Q (.panic c) (a.put o.dst v) w → Q (.panic c) a w) :
    ∀ (n : Nat) (listed : Array Bool) (a : Act) (w : World),
      (∀ j p, ops[j]? = some p → j ≠ i → listed.getD j true = false → (∀ e ∈ p.after, Region.binds md e = true → e.on ≠ i) → o.apart ops p = true) →
      i ∈ Region.ready md ops listed → YieldsIf P ops S o v a → S w → AnyL P md ops Q S L n (listed.setIfInBounds i true) (a.put o.dst v) w → AnyL P md ops Q S L (n + 1) listed a w := by
  intro n
  induction n with
  | zero =>
    intro listed a w _ hr hy hS H
    refine ⟨fun h => (by rw [h] at hr; cases hr), fun j hj => ?_⟩
    by_cases hji : j = i
    · subst hji; exact hy.wpOp hi hS ⟨.inr hS, H⟩
    · have h1 := ready_mono hj hji
      rw [H.1] at h1
      cases h1
  | succ n ih =>
    intro listed a w hfree hr hy hS H
    refine ⟨fun h => (by rw [h] at hr; cases hr), fun j hj => ?_⟩
    by_cases hji : j = i
    · subst hji; exact hy.wpOp hi hS ⟨.inr hS, H⟩
    · have h1 := H.2 j (ready_mono hj hji)
      obtain ⟨hjun, p, hp, hall⟩ := mem_ready.1 hj
      have hnot : ∀ e ∈ p.after, Region.binds md e = true → e.on ≠ i := fun e he hb heq => by
        have k1 := hall e he hb
        have k0 := (mem_ready.1 hr).1
        rw [heq] at k1
        rcases Nat.lt_or_ge i listed.size with g | g
        · simp [g] at k0 k1; rw [k0] at k1; cases k1
        · simp [Array.getElem?_eq_none g] at k1
      have hjL : j ≠ L := fun e => by
        subst e
        obtain ⟨e, he, hb, hon⟩ := waits_spec hw hp
        exact hnot e he hb hon
      have h2 := wpOp_putIf hp (hfree j p hp hji hjun hnot) (fun cs d => hsel i o cs d hi) (fun cs d => hsel j p cs d hp) hQ hy h1
      have hri : i ∈ Region.ready md ops (listed.setIfInBounds j true) := ready_mono hr (Ne.symm hji)
      have hfree2 : ∀ k q, ops[k]? = some q → k ≠ i → (listed.setIfInBounds j true).getD k true = false → (∀ e ∈ q.after, Region.binds md e = true → e.on ≠ i) → o.apart ops q = true := fun k q hk hki hun hno => by
        refine hfree k q hk hki ?_ hno
        by_cases hjk : j = k
        · subst hjk; exact hjun
        · rw [getD_set_ne true hjk] at hun; exact hun
      refine wpOp_mono (fun b x h3 => ?_) h2
      obtain ⟨y, hl, hA⟩ := h3
      rcases hl with hl | hSx
      · exact absurd hl hjL
      · exact ⟨.inr hSx, ih (listed.setIfInBounds j true) b x hfree2 hri y hSx (by rw [Array.setIfInBounds_comm _ _ hji]; exact hA)⟩
theorem aZ0 { o : Oper} {l : List Oper} : (o :: l).toArray[0]? = some o := rfl
theorem aZ1 {x0 o : Oper} {l : List Oper} : (x0 :: o :: l).toArray[1]? = some o := rfl
theorem aZ2 {x0 x1 o : Oper} {l : List Oper} : (x0 :: x1 :: o :: l).toArray[2]? = some o := rfl
theorem aZ3 {x0 x1 x2 o : Oper} {l : List Oper} : (x0 :: x1 :: x2 :: o :: l).toArray[3]? = some o := rfl
theorem aZ4 {x0 x1 x2 x3 o : Oper} {l : List Oper} : (x0 :: x1 :: x2 :: x3 :: o :: l).toArray[4]? = some o := rfl
theorem aZ5 {x0 x1 x2 x3 x4 o : Oper} {l : List Oper} : (x0 :: x1 :: x2 :: x3 :: x4 :: o :: l).toArray[5]? = some o := rfl
theorem aZ6 {x0 x1 x2 x3 x4 x5 o : Oper} {l : List Oper} : (x0 :: x1 :: x2 :: x3 :: x4 :: x5 :: o :: l).toArray[6]? = some o := rfl
theorem aZ7 {x0 x1 x2 x3 x4 x5 x6 o : Oper} {l : List Oper} : (x0 :: x1 :: x2 :: x3 :: x4 :: x5 :: x6 :: o :: l).toArray[7]? = some o := rfl
theorem aZ8 {x0 x1 x2 x3 x4 x5 x6 x7 o : Oper} {l : List Oper} : (x0 :: x1 :: x2 :: x3 :: x4 :: x5 :: x6 :: x7 :: o :: l).toArray[8]? = some o := rfl
theorem aZ9 {x0 x1 x2 x3 x4 x5 x6 x7 x8 o : Oper} {l : List Oper} : (x0 :: x1 :: x2 :: x3 :: x4 :: x5 :: x6 :: x7 :: x8 :: o :: l).toArray[9]? = some o := rfl
theorem aZ10 {x0 x1 x2 x3 x4 x5 x6 x7 x8 x9 o : Oper} {l : List Oper} : (x0 :: x1 :: x2 :: x3 :: x4 :: x5 :: x6 :: x7 :: x8 :: x9 :: o :: l).toArray[10]? = some o := rfl
theorem aZ11 {x0 x1 x2 x3 x4 x5 x6 x7 x8 x9 x10 o : Oper} {l : List Oper} : (x0 :: x1 :: x2 :: x3 :: x4 :: x5 :: x6 :: x7 :: x8 :: x9 :: x10 :: o :: l).toArray[11]? = some o := rfl
theorem aZ12 {x0 x1 x2 x3 x4 x5 x6 x7 x8 x9 x10 x11 o : Oper} {l : List Oper} : (x0 :: x1 :: x2 :: x3 :: x4 :: x5 :: x6 :: x7 :: x8 :: x9 :: x10 :: x11 :: o :: l).toArray[12]? = some o := rfl
theorem aZ13 {x0 x1 x2 x3 x4 x5 x6 x7 x8 x9 x10 x11 x12 o : Oper} {l : List Oper} : (x0 :: x1 :: x2 :: x3 :: x4 :: x5 :: x6 :: x7 :: x8 :: x9 :: x10 :: x11 :: x12 :: o :: l).toArray[13]? = some o := rfl
theorem aZ14 {x0 x1 x2 x3 x4 x5 x6 x7 x8 x9 x10 x11 x12 x13 o : Oper} {l : List Oper} : (x0 :: x1 :: x2 :: x3 :: x4 :: x5 :: x6 :: x7 :: x8 :: x9 :: x10 :: x11 :: x12 :: x13 :: o :: l).toArray[14]? = some o := rfl
theorem aZ15 {x0 x1 x2 x3 x4 x5 x6 x7 x8 x9 x10 x11 x12 x13 x14 o : Oper} {l : List Oper} : (x0 :: x1 :: x2 :: x3 :: x4 :: x5 :: x6 :: x7 :: x8 :: x9 :: x10 :: x11 :: x12 :: x13 :: x14 :: o :: l).toArray[15]? = some o := rfl
theorem aZ16 {x0 x1 x2 x3 x4 x5 x6 x7 x8 x9 x10 x11 x12 x13 x14 x15 o : Oper} {l : List Oper} : (x0 :: x1 :: x2 :: x3 :: x4 :: x5 :: x6 :: x7 :: x8 :: x9 :: x10 :: x11 :: x12 :: x13 :: x14 :: x15 :: o :: l).toArray[16]? = some o := rfl
theorem aZ17 {x0 x1 x2 x3 x4 x5 x6 x7 x8 x9 x10 x11 x12 x13 x14 x15 x16 o : Oper} {l : List Oper} : (x0 :: x1 :: x2 :: x3 :: x4 :: x5 :: x6 :: x7 :: x8 :: x9 :: x10 :: x11 :: x12 :: x13 :: x14 :: x15 :: x16 :: o :: l).toArray[17]? = some o := rfl
theorem aZ18 {x0 x1 x2 x3 x4 x5 x6 x7 x8 x9 x10 x11 x12 x13 x14 x15 x16 x17 o : Oper} {l : List Oper} : (x0 :: x1 :: x2 :: x3 :: x4 :: x5 :: x6 :: x7 :: x8 :: x9 :: x10 :: x11 :: x12 :: x13 :: x14 :: x15 :: x16 :: x17 :: o :: l).toArray[18]? = some o := rfl
theorem aZ19 {x0 x1 x2 x3 x4 x5 x6 x7 x8 x9 x10 x11 x12 x13 x14 x15 x16 x17 x18 o : Oper} {l : List Oper} : (x0 :: x1 :: x2 :: x3 :: x4 :: x5 :: x6 :: x7 :: x8 :: x9 :: x10 :: x11 :: x12 :: x13 :: x14 :: x15 :: x16 :: x17 :: x18 :: o :: l).toArray[19]? = some o := rfl
theorem anyL_take {i : Nat} {o : Oper} {v : Value} {n : Nat} {listed : Array Bool} {a : Act} {w : World} (hi : ops[i]? = some o) (hw : waits md ops L i = true)
  (hs : Region.noSelect ops = true) (hf : Region.free md ops listed i = true) (hr : (Region.ready md ops listed).contains i = true)
  (hQ : ∀ c a w, Q (.panic c) (a.put o.dst v) w → Q (.panic c) a w) (hg : o.guard = none) (hy : ∀ w, S w → (execOp a.eval o).run P w = .ok (.value v) w) (hS : S w)
  (h : AnyL P md ops Q S L n (listed.setIfInBounds i true) (a.put o.dst v) w) : AnyL P md ops Q S L (n + 1) listed a w :=
 AnyL.first hi hw (Region.noSelect_spec hs) hQ n listed a w (Region.free_spec hi hf) (by simpa using hr) (.inl ⟨by simp [Region.wanted, hg], hy⟩) hS h
theorem anyL_one {i : Nat} {o : Oper} {n : Nat} {listed : Array Bool} {a : Act} {w : World} (hi : ops[i]? = some o) (hr : Region.ready md ops listed = [i]) (hg : o.guard = none)
  (h : ∀ K : Act → World → Prop, (∀ b x, (i = L ∨ S x) → AnyL P md ops Q S L n (listed.setIfInBounds i true) b x → K b x) → Oper.wp P o a w K Q) : AnyL P md ops Q S L (n + 1) listed a w := by
 refine ⟨fun h0 => absurd (hr ▸ h0) (by simp), ?_⟩
 rw [hr]
 intro j hj
 obtain rfl : j = i := by simpa using hj
 refine wpOp_step hi (fun K hK => ?_)
 have hw : Region.wanted o (yielded ops a.tmps) = true := by simp [Region.wanted, hg]
 rw [if_pos hw]
 exact h K (fun b x h1 h2 => hK b x ⟨h1, h2⟩)
def tkB (md : Region.Mode) (ops : Array Oper) (L : Nat) (listed : Array Bool) (i : Nat) : Bool := waits md ops L i && (Region.noSelect ops && (Region.free md ops listed i && (Region.ready md ops listed).contains i))
theorem tkB_all {listed : Array Bool} {i : Nat} (h : tkB md ops L listed i = true) : waits md ops L i = true ∧ Region.noSelect ops = true ∧ Region.free md ops listed i = true ∧ (Region.ready md ops listed).contains i = true := by
 unfold tkB at h
 rw [Bool.and_eq_true, Bool.and_eq_true, Bool.and_eq_true] at h
 exact h
theorem anyL_tk {i : Nat} {o : Oper} {v : Value} {n : Nat} {listed : Array Bool} {a : Act} {w : World} (hi : ops[i]? = some o) (hb : tkB md ops L listed i = true) (hy : ∀ w, S w → (execOp a.eval o).run P w = .ok (.value v) w) (hS : S w)
  (h : AnyL P md ops Q S L n (listed.setIfInBounds i true) (a.put o.dst v) w) (hg : o.guard = none := by rfl) (hQ : ∀ c a w, Q (.panic c) (a.put o.dst v) w → Q (.panic c) a w := by exact fun _ _ _ h => h) : AnyL P md ops Q S L (n + 1) listed a w :=
 anyL_take hi (tkB_all hb).1 (tkB_all hb).2.1 (tkB_all hb).2.2.1 (tkB_all hb).2.2.2 hQ hg hy hS h
theorem anyL_done {n : Nat} {listed : Array Bool} {a : Act} {w : World} (hr : Region.ready md ops listed = []) (h : Q .normal a w) : AnyL P md ops Q S L n listed a w := by
 cases n with
 | zero => exact ⟨hr, h⟩
 | succ n => exact ⟨fun _ => h, by rw [hr]; simp⟩
theorem wp_append_run {o : Oper} {a : Act} {w w' : World} {K : Act → World → Prop} {v1 v2 v3 : Value} (x y : Operand) (t : TypeId) (ho : o.op = .call { callee := .builtin .append, args := #[x, y], argTypes := #[t, t] }) (hx : a.eval x = v1) (hy : a.eval y = v2)
  (hr : (Builtin.append_ #[t, t] o.type #[v1, v2]).run P w = .ok v3 w') (h : K (a.put o.dst v3) w') : o.wp P a w K Q := by
 unfold Oper.wp execOp
 simp only [ho, resolve, invoke, builtin, Sem.run_bind, Sem.run_pure, Result.andThen_ok, List.map_toArray, List.map_cons, List.map_nil, hx, hy, hr]
 exact h
theorem region_anyL (S : World → Prop) (L : Nat) {id : Nat} {a : Act} {w : World} (hm : P.follows .mixedOrders = true) (h : AnyL P .any ops (NoPanic Q) S L ops.size (Array.replicate ops.size false) a w.drew) : (Code.region id ops true).wp P Q a w :=
 wp_region_noPanic (wp_region_any hm (AnyL.any _ _ _ _ h))
end
end Go.Proofs.Ytkeeiihaijhdoaa.Wt
