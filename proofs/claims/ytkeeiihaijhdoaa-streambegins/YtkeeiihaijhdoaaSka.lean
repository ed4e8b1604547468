/- Marks in memory, runs that came in. -/
import Derived.Test.YtkeeiihaijhdoaaPlainMa
import Derived.Test.YtkeeiihaijhdoaaMcO
import Derived.Test.YtkeeiihaijhdoaaWy
namespace Go.Proofs.Ytkeeiihaijhdoaa.Sm
open Go.ChangeShapes Go.WideShapes Go.ChangeAt Go.RowKit
open Go.Proofs.Ytkeeiihaijhdoaa.Pl Go.Proofs.Ytkeeiihaijhdoaa.Wt
set_option linter.unusedVariables false
set_option linter.unusedSimpArgs false
abbrev MkV := Int × Int × Value
def encM (s : MkV) : List Value := [.int .i64 s.1, .int .i64 s.2.1, s.2.2]
theorem encM_len (s : MkV) : (encM s).length = 3 := rfl
/-- The value x tells of the mark k. -/
def IsMk (w : World) (x : MkV) (k : Mk) : Prop := x.1 = k.1 ∧ x.2.1 = k.2.1 ∧ Nums w x.2.2 k.2.2
theorem IsMk.later {w w' : World} {x : MkV} {k : Mk} (h : IsMk w x k) {B : Nat} (hb : Below B w w') (hB : w.heap.size ≤ B) : IsMk w' x k := ⟨h.1, h.2.1, h.2.2.later hb hB⟩
/-- The value of a mark. -/
def MkIs (w : World) (v : Value) (k : Mk) : Prop := ∃ vo, v = .agg #[.int .i64 k.1, .int .i64 k.2.1, vo] ∧ Nums w vo k.2.2
theorem MkIs.later {w w' : World} {v : Value} {k : Mk} (h : MkIs w v k) {B : Nat} (hb : Below B w w') (hB : w.heap.size ≤ B) : MkIs w' v k := by
  obtain ⟨vo, h1, h2⟩ := h
  exact ⟨vo, h1, h2.later hb hB⟩
/-- The slice value v holds the marks l. -/
def Marks (w : World) (v : Value) (l : List Mk) : Prop := ∃ vs : List MkV, Row 3 encM w v vs ∧ vs.length = l.length ∧ ∀ j, j < l.length → IsMk w (el vs j) (el l j)
theorem Marks.later {w w' : World} {v : Value} {l : List Mk} (h : Marks w v l) {B : Nat} (hb : Below B w w') (hB : w.heap.size ≤ B) : Marks w' v l := by
  obtain ⟨vs, h1, h2, h3⟩ := h
  exact ⟨vs, Row.later h1 hb hB, h2, fun j hj => (h3 j hj).later hb hB⟩
theorem Marks.sl {w : World} {v : Value} {l : List Mk} (h : Marks w v l) : ∃ a cap, v = .slice a l.length cap := by
  obtain ⟨vs, h1, h2, h3⟩ := h
  rw [← h2]; exact Row.sl h1
theorem Marks.get {w : World} {v : Value} {l : List Mk} (h : Marks w v l) : ∃ a cap, v = .slice a l.length cap ∧ ∀ j, j < l.length → ∃ b off vo, a = some ⟨b, off, none⟩ ∧ b < w.heap.size ∧ w.cell? ⟨b, off + j * 3, none⟩ = some (.int .i64 (el l j).1) ∧ w.cell? ⟨b, off + j * 3 + 1, none⟩ = some (.int .i64 (el l j).2.1) ∧ w.cell? ⟨b, off + j * 3 + 2, none⟩ = some vo ∧ Nums w vo (el l j).2.2 := by
  by_cases hz : 0 < l.length
  · obtain ⟨vs, h1, h2, h3⟩ := h
    obtain ⟨b, off, cap, hv, hb, hc⟩ := Row.plain h1 (fun x => by rw [encM_len]; omega) (by omega)
    refine ⟨_, cap, by rw [← h2]; exact hv, fun j hj => ?_⟩
    obtain ⟨g1, g2, g3⟩ := h3 j hj
    refine ⟨b, off, (el vs j).2.2, rfl, hb, ?_, ?_, hc j (by omega) 2 _ rfl, g3⟩
    · rw [← g1]; exact hc j (by omega) 0 _ rfl
    · rw [← g2]; exact hc j (by omega) 1 _ rfl
  · obtain ⟨a, cap, hv⟩ := h.sl
    exact ⟨a, cap, hv, fun j hj => by omega⟩
/-- The value v is the run r. -/
def RunV (w : World) (v : Value) (r : Ru) : Prop := ∃ vs, v = .agg #[.int .i64 r.1, vs] ∧ Marks w vs r.2
theorem RunV.later {w w' : World} {v : Value} {r : Ru} (h : RunV w v r) {B : Nat} (hb : Below B w w') (hB : w.heap.size ≤ B) : RunV w' v r := by
  obtain ⟨vs, h1, h2⟩ := h
  exact ⟨vs, h1, h2.later hb hB⟩
/-- Sizes within reach. -/
def okU (r : Ru) : Prop := r.2.length * 40 ≤ 140737488351232 ∧ ∀ j, j < r.2.length → (el r.2 j).2.2.length * 8 ≤ 140737488351232
theorem infoMark : (Try.prog.info? 67).map (fun i => (i.zero, i.size, i.bytes)) = some (some (.agg #[.int .i64 0, .int .i64 0, .slice none 0 0]), 3, 40) := by kernel_rfl
section
variable {H : Type} {enc : TypeId × Value → H} {w : World} {base : Nat} {sp : Nat → Bool} {held : Bool}
theorem open_nums {fuel : Nat} {v : Value} {x : DataW H × List MemPlace} (h : DataW.trod enc Try.prog w base sp held fuel 35 [v] = some x) (hf : Fits Try.prog 35 x.1) :
    ∃ l : List Int, Nums w v l ∧ l.length * 8 ≤ 140737488351232 ∧ ∀ n ∈ l, (Lit.int .i64 n).wf = true := by
  rcases open_ints Try.underlying35 Try.underlying3 (by kernel_rfl) h with ⟨hcs, hx⟩ | ⟨a, len, cap, zs, hcs, _, hl, hm, hz, hx, hc, hw⟩
  · simp at hcs
    exact ⟨[], .inl ⟨hcs, rfl⟩, by simp, by simp⟩
  · simp at hcs
    subst hcs
    have hzl : len ≤ zs.length := by rw [hz]; split <;> omega
    have hlen : (zs.take len).length = len := by rw [List.length_take]; omega
    refine ⟨zs.take len, .inr ⟨a, cap, by rw [hlen], ?_⟩, ?_, fun n hn => hw n (List.mem_of_mem_take hn)⟩
    · intro j hj i u hu
      rw [hlen] at hj
      match i, hu with
      | 0, hu =>
        simp [encI1] at hu
        subst hu
        rw [Nat.mul_one, Nat.add_zero, hc j (by omega)]
        have h6 : j < zs.length := by omega
        simp [el, List.getElem?_take, hj, h6, List.getD_eq_getElem?_getD]
      | i + 1, hu => simp [encI1] at hu
    · rw [hx] at hf
      have := hf.len Try.underlying35
      have hby : Try.prog.bytesOf 3 = 8 := by kernel_rfl
      rw [hby] at this
      rw [hlen]
      simp only [lits, List.length_map, hlen, reachBytes] at this
      omega
theorem open_run {fuel : Nat} {v0 v1 : Value} {y0 y1 : DataW H × List MemPlace}
    (h0 : DataW.trod enc Try.prog w base sp held fuel 3 [v0] = some y0) (h1 : DataW.trod enc Try.prog w base sp held fuel 26 [v1] = some y1) (hf : Fits Try.prog 26 y1.1) :
    ∃ r : Ru, RunV w (.agg #[v0, v1]) r ∧ okU r ∧ (Lit.int .i64 r.1).wf = true ∧ ∀ k ∈ r.2, (Lit.int .i64 k.1).wf = true ∧ (Lit.int .i64 k.2.1).wf = true ∧ ∀ x ∈ k.2.2, (Lit.int .i64 x).wf = true := by
  obtain ⟨z, e0, _, hz⟩ := DataW.trod_int Try.underlying3 h0
  simp at e0
  subst e0
  rcases open_rows Try.underlying26 Try.underlying67 (by kernel_rfl) (by kernel_rfl) h1 with ⟨hv, hx⟩ | ⟨a, len, cap, n, V, Y, rest, hv, hm, hl, hx, hc⟩
  · refine ⟨(z, []), ⟨v1, rfl, [], .inl ⟨hv, rfl⟩, rfl, by simp⟩, ⟨by simp, by simp⟩, hz, by simp⟩
  · have key : ∀ i, i < len → ∃ q : Value × Mk, w.cell? (a.add (i * 3)) = some (.int .i64 q.2.1) ∧ w.cell? (a.add (i * 3 + 1)) = some (.int .i64 q.2.2.1) ∧ w.cell? (a.add (i * 3 + 2)) = some q.1 ∧ Nums w q.1 q.2.2.2 ∧ q.2.2.2.length * 8 ≤ 140737488351232 ∧ (Lit.int .i64 q.2.1).wf = true ∧ (Lit.int .i64 q.2.2.1).wf = true ∧ ∀ x ∈ q.2.2.2, (Lit.int .i64 x).wf = true := by
      intro i hi
      obtain ⟨c0, t0⟩ := hc i hi 0 _ rfl
      obtain ⟨c1, t1⟩ := hc i hi 1 _ rfl
      obtain ⟨c2, t2⟩ := hc i hi 2 _ rfl
      obtain ⟨q0, e0, _, w0⟩ := DataW.trod_int Try.underlying3 t0
      obtain ⟨q1, e1, _, w1⟩ := DataW.trod_int Try.underlying3 t1
      simp at e0 e1
      rw [e0] at c0
      rw [e1] at c1
      have hfi : Fits Try.prog 35 (Y i 2).1 := by
        rw [hx] at hf
        have hm : (.agg ((List.range 3).map fun f => (Y i f).1) : DataW H) ∈ (List.range len).map fun i => (.agg ((List.range 3).map fun f => (Y i f).1) : DataW H) := List.mem_map.2 ⟨i, List.mem_range.2 hi, rfl⟩
        exact (hf.elem Try.underlying26 hm).field Try.underlying67 (f := 2) rfl rfl
      obtain ⟨l, g1, g2, g3⟩ := open_nums t2 hfi
      exact ⟨(V i 2, q0, q1, l), c0, c1, c2, g1, g2, w0, w1, g3⟩
    obtain ⟨q, hq⟩ := Go.Deep.choose_lt key
    have hlen : ((List.range len).map fun i => (q i).2).length = len := by simp
    have hlen2 : ((List.range len).map fun i => (((q i).2.1, (q i).2.2.1, (q i).1) : MkV)).length = len := by simp
    refine ⟨(z, (List.range len).map fun i => (q i).2), ⟨v1, rfl, (List.range len).map fun i => ((q i).2.1, (q i).2.2.1, (q i).1), .inr ⟨a, cap, by rw [hlen2]; exact hv, ?_⟩, by simp, ?_⟩, ⟨?_, ?_⟩, hz, ?_⟩
    · intro j hj i u hu
      rw [hlen2] at hj
      rw [el_range_map _ hj] at hu
      obtain ⟨g0, g1, g2, _⟩ := hq j hj
      match i, hu with
      | 0, hu => simp [encM] at hu; subst hu; exact g0
      | 1, hu => simp [encM] at hu; subst hu; exact g1
      | 2, hu => simp [encM] at hu; subst hu; exact g2
      | i + 3, hu => simp [encM] at hu
    · intro j hj
      rw [hlen] at hj
      rw [el_range_map _ hj, el_range_map _ hj]
      exact ⟨rfl, rfl, (hq j hj).2.2.2.1⟩
    · show ((List.range len).map fun i => (q i).2).length * 40 ≤ _
      rw [hlen]
      rw [hx] at hf
      have := hf.len Try.underlying26
      have hby : Try.prog.bytesOf 67 = 40 := by kernel_rfl
      rw [hby] at this
      simpa [reachBytes] using this
    · intro j hj
      have hj' : j < len := by rw [← hlen]; exact hj
      show (el ((List.range len).map fun i => (q i).2) j).2.2.length * 8 ≤ _
      rw [el_range_map _ hj']
      exact (hq j hj').2.2.2.2.1
    · intro s hs
      simp at hs
      obtain ⟨i, hi, rfl⟩ := hs
      exact (hq i hi).2.2.2.2.2
end
end Go.Proofs.Ytkeeiihaijhdoaa.Sm
