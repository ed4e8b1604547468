/- Slices of structs, and machines, that came in, read as lists. -/
import Derived.Test.YtfpibdaedfilaaaEaa
import Derived.Deep.Slices
import Derived.Deep.Fields
import Derived.Test.YtfpibdaedfilaaaEab
namespace Go.Proofs.Ytfpibdaedfilaaa.Wt
open Go.ChangeShapes Go.WideShapes Go.ChangeAt Go.RowKit
open Go.Proofs.Ytfpibdaedfilaaa.Pl
set_option linter.unusedVariables false
section
variable {H : Type} {enc : TypeId × Value → H} {w : World} {base : Nat} {sp : Nat → Bool} {held : Bool}
theorem open_rows {P : Program} {t e : TypeId} {fs : Array Field} {fuel : Nat} {v : Value} {x : DataW H × List MemPlace} (ht : P.underlying t = some (.slice e)) (he : P.underlying e = some (.struct fs)) (hone : Go.Deep.oneCellFields P fs = true) (hce : P.cellsOf e = fs.size)
    (h : DataW.trod enc P w base sp held fuel t [v] = some x) :
    (v = .slice none 0 0 ∧ x = (.nil, [])) ∨
    ∃ (a : Addr) (len cap n : Nat) (V : Nat → Nat → Value) (Y : Nat → Nat → DataW H × List MemPlace) (rest : List (DataW H)), v = .slice (some a) len cap ∧ cap ≤ maxLen ∧ len ≤ cap ∧
      x.1 = .slice ((List.range len).map fun i => .agg ((List.range fs.size).map fun f => (Y i f).1)) rest ∧
      ∀ i, i < len → ∀ (f : Nat) fd, fs[f]? = some fd → w.cell? (a.add (i * fs.size + f)) = some (V i f) ∧ DataW.trod enc P w base sp held n fd.type [V i f] = some (Y i f) := by
  rcases Go.Deep.open_slice ht h with ⟨hcs, hx⟩ | ⟨a, len, cap, m, n, D, Pl, hcs, hb, hl, hm, hmm, hx, hc⟩
  · left; simp at hcs; exact ⟨hcs, hx⟩
  right
  simp at hcs
  have hlm : len ≤ m := by rw [hmm]; split <;> omega
  have each : ∀ i, i < len → ∃ q : (Nat → Value) × (Nat → DataW H × List MemPlace), D i = .agg ((List.range fs.size).map fun f => (q.2 f).1) ∧ ∀ (f : Nat) fd, fs[f]? = some fd → w.cell? (a.add (i * fs.size + f)) = some (q.1 f) ∧ DataW.trod enc P w base sp held (n - 1) fd.type [q.1 f] = some (q.2 f) := by
    intro i hi
    obtain ⟨cs', h1, h2⟩ := hc i (by omega)
    rw [hce] at h1
    obtain ⟨_, hlen, hcell⟩ := World.cells?_some h1
    obtain ⟨ys, k, hk, hxy, _, hyl, hf⟩ := DataW.trod_struct he h2
    obtain rfl : k = n - 1 := by omega
    refine ⟨(fun f => el cs' f, fun f => el ys f), ?_, ?_⟩
    · have h3 := congrArg Prod.fst hxy
      simp only at h3
      rw [h3]
      congr 1
      rw [Go.Deep.map_by_index ys default, hyl]
      rfl
    · intro f fd hfd
      have hfl : f < fs.size := by
        rcases Nat.lt_or_ge f fs.size with g | g
        · exact g
        · rw [Array.getElem?_eq_none g] at hfd; cases hfd
      obtain ⟨o0, k0⟩ := Go.Deep.hone_of hone f fd hfd
      have g1 := hcell f (by omega)
      rw [Go.Deep.add_add] at g1
      have g2 := hf f fd hfd
      rw [o0, k0] at g2
      have e1 : (cs'.drop f).take 1 = [el cs' f] := by
        rw [List.drop_eq_getElem_cons (by omega), el_get (by omega)]
        rfl
      rw [e1] at g2
      refine ⟨?_, ?_⟩
      · show w.cell? _ = some (el cs' f)
        rw [g1, List.getElem?_eq_getElem (by omega), el_get (by omega)]
      · show DataW.trod enc P w base sp held (n - 1) fd.type [el cs' f] = some (el ys f)
        rw [g2, List.getElem?_eq_getElem (by omega), el_get (by omega)]
  obtain ⟨q, hq⟩ := Go.Deep.choose_lt each
  refine ⟨a, len, cap, n - 1, fun i => (q i).1, fun i => (q i).2, (List.range (m - len)).map fun j => D (len + j), hcs, hm, hl, ?_, fun i hi => (hq i hi).2⟩
  rw [hx]
  simp only
  congr 1
  exact List.map_congr_left fun i hi => (hq i (by simpa using hi)).1
theorem weights_all {P : Program} {e : TypeId} {l : List (DataW H)} {d : DataW H} (h : d ∈ l) {n : Nat} (hn : n ∈ d.weights P e) : n ∈ DataW.weightsAll P e l := by
  induction l with
  | nil => simp at h
  | cons a l ih =>
    simp only [DataW.weightsAll, List.mem_append]
    rcases List.mem_cons.1 h with rfl | h
    · exact .inl hn
    · exact .inr (ih h)
def Fits (P : Program) (t : TypeId) (d : DataW H) : Prop := ∀ n ∈ d.weights P t, n ≤ reachBytes
theorem Fits.len {P : Program} {t e : TypeId} (ht : P.underlying t = some (.slice e)) {xs ys : List (DataW H)} (h : Fits P t (.slice xs ys)) : xs.length * P.bytesOf e ≤ reachBytes := by
 have := h ((xs.length + ys.length) * P.bytesOf e) (by simp [DataW.weights, ht])
 exact Nat.le_trans (Nat.mul_le_mul_right _ (by omega)) this
theorem Fits.elem {P : Program} {t e : TypeId} (ht : P.underlying t = some (.slice e)) {xs ys : List (DataW H)} (h : Fits P t (.slice xs ys)) {d : DataW H} (hd : d ∈ xs) : Fits P e d := by
 intro n hn
 exact h n (by simp only [DataW.weights, ht, List.mem_cons, List.mem_append]; exact .inr (.inl (weights_all hd hn)))
theorem Fits.field {P : Program} {t : TypeId} {fs : Array Field} (ht : P.underlying t = some (.struct fs)) {ds : List (DataW H)} (h : Fits P t (.agg ds)) {f : Nat} {fd : Field} (hf : fs[f]? = some fd) {d : DataW H} (hd : ds[f]? = some d) : Fits P fd.type d := by
 intro n hn
 refine h n ?_
 simp only [DataW.weights, ht]
 refine DataW.weights_mem_each (j := f) (t := fd.type) (d := d) ?_ hd n hn
 rw [List.getElem?_map, Array.getElem?_toList, hf]
 rfl
theorem Fits.arg {P : Program} {ts : List TypeId} {ds : List (DataW H)} (h : (DataW.weightsEach P ts ds).all (· ≤ reachBytes) = true) {j : Nat} {t : TypeId} {d : DataW H} (ht : ts[j]? = some t) (hd : ds[j]? = some d) : Fits P t d := by
 intro n hn
 have := List.all_eq_true.1 h n (DataW.weights_mem_each ht hd n hn)
 simpa using this
def wfA (a : Ar) : Prop := (Lit.int .i64 a.1).wf = true ∧ (Lit.int .i64 a.2.1).wf = true ∧ (Lit.int .i64 a.2.2.1).wf = true ∧ (Lit.int .i64 a.2.2.2).wf = true
theorem open_arcs {P : Program} {t e : TypeId} {f0 f1 f2 f3 : Field} {fuel : Nat} {v : Value} {x : DataW H × List MemPlace} (ht : P.underlying t = some (.slice e)) (he : P.underlying e = some (.struct #[f0, f1, f2, f3])) (hone : Go.Deep.oneCellFields P #[f0, f1, f2, f3] = true) (hce : P.cellsOf e = 4)
  (h0 : P.underlying f0.type = some (.int .i64)) (h1 : P.underlying f1.type = some (.int .i64)) (h2 : P.underlying f2.type = some (.int .i64)) (h3 : P.underlying f3.type = some (.int .i64)) (hby : P.bytesOf e = 32)
  (h : DataW.trod enc P w base sp held fuel t [v] = some x) (hf : Fits P t x.1) :
  ∃ l : List Ar, Arcs w v l ∧ (∀ a ∈ l, wfA a) ∧ l.length * 32 ≤ 140737488351232 := by
 rcases open_rows ht he hone hce h with ⟨hv, hx⟩ | ⟨a, len, cap, n, V, Y, rest, hv, hm, hl, hx, hc⟩
 ·exact ⟨[], .inl ⟨hv, rfl⟩, by simp, by simp⟩
 ·have key : ∀ i, i < len → ∃ y : Ar, w.cell? (a.add (i * 4)) = some (.int .i64 y.1) ∧ w.cell? (a.add (i * 4 + 1)) = some (.int .i64 y.2.1) ∧ w.cell? (a.add (i * 4 + 2)) = some (.int .i64 y.2.2.1) ∧ w.cell? (a.add (i * 4 + 3)) = some (.int .i64 y.2.2.2) ∧ wfA y := by
   intro i hi
   obtain ⟨c0, t0⟩ := hc i hi 0 f0 rfl
   obtain ⟨c1, t1⟩ := hc i hi 1 f1 rfl
   obtain ⟨c2, t2⟩ := hc i hi 2 f2 rfl
   obtain ⟨c3, t3⟩ := hc i hi 3 f3 rfl
   obtain ⟨q0, e0, _, w0⟩ := DataW.trod_int h0 t0
   obtain ⟨q1, e1, _, w1⟩ := DataW.trod_int h1 t1
   obtain ⟨q2, e2, _, w2⟩ := DataW.trod_int h2 t2
   obtain ⟨q3, e3, _, w3⟩ := DataW.trod_int h3 t3
   simp at e0 e1 e2 e3
   rw [e0] at c0; rw [e1] at c1; rw [e2] at c2; rw [e3] at c3
   exact ⟨(q0, q1, q2, q3), c0, c1, c2, c3, w0, w1, w2, w3⟩
  obtain ⟨y, hy⟩ := Go.Deep.choose_lt key
  have hlen : ((List.range len).map y).length = len := by simp
  refine ⟨(List.range len).map y, .inr ⟨a, cap, by rw [hlen]; exact hv, ?_⟩, ?_, ?_⟩
  ·intro j hj i u hu
   rw [hlen] at hj
   rw [el_range_map y hj] at hu
   obtain ⟨g0, g1, g2, g3, _⟩ := hy j hj
   match i, hu with
   | 0, hu => simp [encA] at hu; subst hu; exact g0
   | 1, hu => simp [encA] at hu; subst hu; exact g1
   | 2, hu => simp [encA] at hu; subst hu; exact g2
   | 3, hu => simp [encA] at hu; subst hu; exact g3
   | i + 4, hu => simp [encA] at hu
  ·intro p hp
   simp at hp
   obtain ⟨i, hi, rfl⟩ := hp
   exact (hy i hi).2.2.2.2
  ·rw [hx] at hf
   have := hf.len ht
   rw [hby] at this
   simpa [reachBytes] using this
end
abbrev Nd := Int × Bool × List Ar
abbrev Rw := Int × List Nd
def encN (s : Int × Bool × Value) : List Value := [.int .i64 s.1, .bool s.2.1, s.2.2]
def Nds (w : World) (v : Value) (l : List Nd) : Prop :=
 ∃ vs : List (Int × Bool × Value), Row 3 encN w v vs ∧ vs.length = l.length ∧ ∀ j, j < l.length → (el vs j).1 = (el l j).1 ∧ (el vs j).2.1 = (el l j).2.1 ∧ Arcs w (el vs j).2.2 (el l j).2.2
theorem Nds.later {w w' : World} {v : Value} {l : List Nd} (h : Nds w v l) {B : Nat} (hb : Below B w w') (hB : w.heap.size ≤ B) : Nds w' v l := by
 obtain ⟨vs, h1, h2, h3⟩ := h
 exact ⟨vs, Row.later h1 hb hB, h2, fun j hj => ⟨(h3 j hj).1, (h3 j hj).2.1, (h3 j hj).2.2.later hb hB⟩⟩
theorem Nds.get {w : World} {v : Value} {l : List Nd} (h : Nds w v l) : ∃ a cap, v = .slice a l.length cap ∧ ∀ j, j < l.length → ∃ b off va, a = some ⟨b, off, none⟩ ∧ b < w.heap.size ∧ w.cell? ⟨b, off + j * 3, none⟩ = some (.int .i64 (el l j).1) ∧ w.cell? ⟨b, off + j * 3 + 1, none⟩ = some (.bool (el l j).2.1) ∧ w.cell? ⟨b, off + j * 3 + 2, none⟩ = some va ∧ Arcs w va (el l j).2.2 := by
 obtain ⟨vs, h1, h2, h3⟩ := h
 by_cases hz : 0 < l.length
 ·obtain ⟨b, off, cap, hv, hb, hc⟩ := Row.plain h1 (fun x => by simp [encN]) (by omega)
  refine ⟨_, cap, by rw [← h2]; exact hv, fun j hj => ⟨b, off, (el vs j).2.2, rfl, hb, ?_, ?_, hc j (by omega) 2 _ rfl, (h3 j hj).2.2⟩⟩
  ·rw [← (h3 j hj).1]; exact hc j (by omega) 0 _ rfl
  ·rw [← (h3 j hj).2.1]; exact hc j (by omega) 1 _ rfl
 ·obtain ⟨a, cap, hv⟩ := Row.sl h1
  exact ⟨a, cap, by rw [← h2]; exact hv, fun j hj => by omega⟩
def RawV (w : World) (v : Value) (m : Rw) : Prop := ∃ vs, v = .agg #[.int .i64 m.1, vs] ∧ Nds w vs m.2
theorem RawV.later {w w' : World} {v : Value} {m : Rw} (h : RawV w v m) {B : Nat} (hb : Below B w w') (hB : w.heap.size ≤ B) : RawV w' v m := by
 obtain ⟨vs, h1, h2⟩ := h
 exact ⟨vs, h1, h2.later hb hB⟩
def okR (m : Rw) : Prop := m.2.length * 40 ≤ 140737488351232 ∧ ∀ j, j < m.2.length → (el m.2 j).2.2.length * 32 ≤ 140737488351232
def wfR (m : Rw) : Prop := (Lit.int .i64 m.1).wf = true ∧ ∀ s ∈ m.2, (Lit.int .i64 s.1).wf = true ∧ ∀ a ∈ s.2.2, wfA a
section
variable {H : Type} {enc : TypeId × Value → H} {w : World} {base : Nat} {sp : Nat → Bool} {held : Bool}
theorem open_raw {fuel : Nat} {v0 v1 : Value} {y0 y1 : DataW H × List MemPlace}
  (h0 : DataW.trod enc Try.prog w base sp held fuel 3 [v0] = some y0) (h1 : DataW.trod enc Try.prog w base sp held fuel 22 [v1] = some y1) (hf : Fits Try.prog 22 y1.1) :
  ∃ m : Rw, RawV w (.agg #[v0, v1]) m ∧ okR m ∧ wfR m := by
 obtain ⟨z, e0, _, hz⟩ := DataW.trod_int Try.underlying3 h0
 simp at e0
 subst e0
 rcases open_rows Try.underlying22 Try.underlying72 (by kernel_rfl) (by kernel_rfl) h1 with ⟨hv, hx⟩ | ⟨a, len, cap, n, V, Y, rest, hv, hm, hl, hx, hc⟩
 ·refine ⟨(z, []), ⟨v1, rfl, [], .inl ⟨hv, rfl⟩, rfl, by simp⟩, ⟨by simp, by simp⟩, hz, by simp⟩
 ·have key : ∀ i, i < len → ∃ q : Value × Nd, w.cell? (a.add (i * 3)) = some (.int .i64 q.2.1) ∧ w.cell? (a.add (i * 3 + 1)) = some (.bool q.2.2.1) ∧ w.cell? (a.add (i * 3 + 2)) = some q.1 ∧ Arcs w q.1 q.2.2.2 ∧ (Lit.int .i64 q.2.1).wf = true ∧ (∀ a ∈ q.2.2.2, wfA a) ∧ q.2.2.2.length * 32 ≤ 140737488351232 := by
   intro i hi
   obtain ⟨c0, t0⟩ := hc i hi 0 _ rfl
   obtain ⟨c1, t1⟩ := hc i hi 1 _ rfl
   obtain ⟨c2, t2⟩ := hc i hi 2 _ rfl
   obtain ⟨q0, e0, _, w0⟩ := DataW.trod_int Try.underlying3 t0
   obtain ⟨q1, e1, _⟩ := DataW.trod_bool Try.underlying4 t1
   simp at e0 e1
   rw [e0] at c0
   rw [e1] at c1
   have hfi : Fits Try.prog 70 (Y i 2).1 := by
    rw [hx] at hf
    have hm : (.agg ((List.range 3).map fun f => (Y i f).1) : DataW H) ∈ (List.range len).map fun i => (.agg ((List.range 3).map fun f => (Y i f).1) : DataW H) := List.mem_map.2 ⟨i, List.mem_range.2 hi, rfl⟩
    exact (hf.elem Try.underlying22 hm).field Try.underlying72 (f := 2) rfl rfl
   obtain ⟨l, g1, g2, g3⟩ := open_arcs Try.underlying70 Try.underlying73 (by kernel_rfl) (by kernel_rfl) Try.underlying3 Try.underlying3 Try.underlying3 Try.underlying3 (by kernel_rfl) t2 hfi
   exact ⟨(V i 2, q0, q1, l), c0, c1, c2, g1, w0, g2, g3⟩
  obtain ⟨q, hq⟩ := Go.Deep.choose_lt key
  have hlen : ((List.range len).map fun i => (q i).2).length = len := by simp
  have hlen2 : ((List.range len).map fun i => ((q i).2.1, (q i).2.2.1, (q i).1)).length = len := by simp
  refine ⟨(z, (List.range len).map fun i => (q i).2), ⟨v1, rfl, (List.range len).map fun i => ((q i).2.1, (q i).2.2.1, (q i).1), .inr ⟨a, cap, by rw [hlen2]; exact hv, ?_⟩, by simp, ?_⟩, ⟨?_, ?_⟩, hz, ?_⟩
  ·intro j hj i u hu
   rw [hlen2] at hj
   rw [el_range_map _ hj] at hu
   obtain ⟨g0, g1, g2, _⟩ := hq j hj
   match i, hu with
   | 0, hu => simp [encN] at hu; subst hu; exact g0
   | 1, hu => simp [encN] at hu; subst hu; exact g1
   | 2, hu => simp [encN] at hu; subst hu; exact g2
   | i + 3, hu => simp [encN] at hu
  ·intro j hj
   rw [hlen] at hj
   rw [el_range_map _ hj, el_range_map _ hj]
   exact ⟨rfl, rfl, (hq j hj).2.2.2.1⟩
  ·show ((List.range len).map fun i => (q i).2).length * 40 ≤ _
   rw [hlen]
   rw [hx] at hf
   have := hf.len Try.underlying22
   have hby : Try.prog.bytesOf 72 = 40 := by kernel_rfl
   rw [hby] at this
   simpa [reachBytes] using this
  ·intro j hj
   have hj' : j < len := by rw [← hlen]; exact hj
   show (el ((List.range len).map fun i => (q i).2) j).2.2.length * 32 ≤ _
   rw [el_range_map _ hj']
   exact (hq j hj').2.2.2.2.2.2
  ·intro s hs
   simp at hs
   obtain ⟨i, hi, rfl⟩ := hs
   exact ⟨(hq i hi).2.2.2.2.1, (hq i hi).2.2.2.2.2.1⟩
end
end Go.Proofs.Ytfpibdaedfilaaa.Wt
namespace Go.Proofs.Ytfpibdaedfilaaa.Wt
open Go.ChangeShapes Go.WideShapes Go.ChangeAt Go.RowKit
open Go.Proofs.Ytfpibdaedfilaaa.Pl
set_option linter.unusedVariables false
set_option linter.unusedSimpArgs false
section
variable {P : Program} {ops : Array Oper} {Q : Exit → Act → World → Prop} {md : Region.Mode} {S : World → Prop} {L : Nat}
theorem anyL_br {rs : List Nat} {n : Nat} {listed : Array Bool} {a : Act} {w : World} (hr : Region.ready md ops listed = rs) (hne : rs ≠ [])
  (h : ∀ i ∈ rs, ∃ o, ops[i]? = some o ∧ o.guard = none ∧ ∀ K : Act → World → Prop, (∀ b x, (i = L ∨ S x) → AnyL P md ops Q S L n (listed.setIfInBounds i true) b x → K b x) → Oper.wp P o a w K Q) : AnyL P md ops Q S L (n + 1) listed a w := by
 refine ⟨fun h0 => absurd (hr ▸ h0) hne, ?_⟩
 rw [hr]
 intro j hj
 obtain ⟨o, hi, hg, h⟩ := h j hj
 refine wpOp_step hi (fun K hK => ?_)
 have hw : Region.wanted o (yielded ops a.tmps) = true := by simp [Region.wanted, hg]
 rw [if_pos hw]
 exact h K (fun b x h1 h2 => hK b x ⟨h1, h2⟩)
end
theorem own_mono' {w : World} {base base' : Nat} {e : TypeId} {s : Nat} {v : Value} {n : Nat} {xs : List Value} (h : w.ownsRow base e s v n xs) (hb : base' ≤ base) : w.ownsRow base' e s v n xs := by
 refine ⟨h.1, ?_⟩
 rcases h.2 with h2 | ⟨g, cap, cur, hv, hg, h3⟩
 ·exact .inl h2
 ·exact .inr ⟨g, cap, cur, hv, Nat.le_trans hb hg, h3⟩
theorem one_arc (w : World) (p : Ar) : Row 4 encA (w.alloc (.cells #[.int .i64 p.1, .int .i64 p.2.1, .int .i64 p.2.2.1, .int .i64 p.2.2.2] 58)) (.slice (some ⟨w.heap.size, 0, none⟩) 1 1) [p] := by
 refine .inr ⟨⟨w.heap.size, 0, none⟩, 1, rfl, fun j hj i u hu => ?_⟩
 have hj0 : j = 0 := by simp at hj; exact hj
 subst hj0
 rw [Addr.add_lit]
 refine (Blk.made w _ _).cell _ ?_
 rw [Nat.zero_mul, Nat.zero_add, Nat.zero_add]
 rw [el_zero] at hu
 simpa [encA] using hu
theorem own_snoc {w : World} {base : Nat} {v : Value} {n : Nat} {l : List Ar} {p : Ar} (h : w.ownsRow base 58 4 v (n + [p].length) (l.flatMap encA ++ [p].flatMap encA)) (hn : n = l.length) : w.ownsRow base 58 4 v (l ++ [p]).length ((l ++ [p]).flatMap encA) := by
 subst hn
 rw [List.length_append, List.flatMap_append]
 exact h
theorem snoc_facts {w w' : World} {base : Nat} {vo v : Value} {l : List Ar} {p : Ar} {ob : Obj} (ho : w.ownsRow base 58 4 vo l.length (l.flatMap encA)) (hs : base ≤ w.heap.size) (h : w'.ownsRow base 58 4 v (l.length + [p].length) (l.flatMap encA ++ [p].flatMap encA)) (hg : (w.alloc ob).grownBy w' vo.ownBlock) :
  Hid (w'.ownsRow base 58 4 v (l ++ [p]).length ((l ++ [p]).flatMap encA)) ∧ Hid (Below base w w') ∧ Hid (base ≤ w'.heap.size) := by
 have hb : Below base w w' := ((Below.refl _ _).alloc hs ob).grown hg (by simp; omega) (own_geK ho)
 exact ⟨own_snoc h rfl, hb, Nat.le_trans hs hb.size⟩
end Go.Proofs.Ytfpibdaedfilaaa.Wt
