/- The raw numbers of a machine that came in, read as lists. A number brought into bounds; one arc more behind arcs of the call's own. -/
import Derived.Test.YtfekmlblldhieaaGreatDoorMcO
import Derived.Test.YtfekmlblldhieaaGreatDoorMcC
import Derived.Test.YtfekmlblldhieaaGreatDoorJ17a
namespace Go.Proofs.YtfekmlblldhieaaGreatDoor.Wt
open Go.ChangeShapes Go.WideShapes Go.ChangeAt Go.RowKit
open Go.Proofs.YtfekmlblldhieaaGreatDoor.Pl
set_option linter.unusedVariables false
abbrev Nd := Int × Bool × List Ar
abbrev Rw := Int × List Nd
def encN (s : Int × Bool × Value) : List Value := [.int .i64 s.1, .bool s.2.1, s.2.2]
/-- The slice value v holds the nodes l. -/
def Nds (w : World) (v : Value) (l : List Nd) : Prop :=
  ∃ vs : List (Int × Bool × Value), Row 3 encN w v vs ∧ vs.length = l.length ∧ ∀ j, j < l.length → (el vs j).1 = (el l j).1 ∧ (el vs j).2.1 = (el l j).2.1 ∧ Arcs w (el vs j).2.2 (el l j).2.2
theorem Nds.later {w w' : World} {v : Value} {l : List Nd} (h : Nds w v l) {B : Nat} (hb : Below B w w') (hB : w.heap.size ≤ B) : Nds w' v l := by
  obtain ⟨vs, h1, h2, h3⟩ := h
  exact ⟨vs, Row.later h1 hb hB, h2, fun j hj => ⟨(h3 j hj).1, (h3 j hj).2.1, (h3 j hj).2.2.later hb hB⟩⟩
theorem Nds.get {w : World} {v : Value} {l : List Nd} (h : Nds w v l) : ∃ a cap, v = .slice a l.length cap ∧ ∀ j, j < l.length → ∃ b off va, a = some ⟨b, off, none⟩ ∧ b < w.heap.size ∧ w.cell? ⟨b, off + j * 3, none⟩ = some (.int .i64 (el l j).1) ∧ w.cell? ⟨b, off + j * 3 + 1, none⟩ = some (.bool (el l j).2.1) ∧ w.cell? ⟨b, off + j * 3 + 2, none⟩ = some va ∧ Arcs w va (el l j).2.2 := by
  obtain ⟨vs, h1, h2, h3⟩ := h
  by_cases hz : 0 < l.length
  · obtain ⟨b, off, cap, hv, hb, hc⟩ := Row.plain h1 (fun x => by simp [encN]) (by omega)
    refine ⟨_, cap, by rw [← h2]; exact hv, fun j hj => ⟨b, off, (el vs j).2.2, rfl, hb, ?_, ?_, hc j (by omega) 2 _ rfl, (h3 j hj).2.2⟩⟩
    · rw [← (h3 j hj).1]; exact hc j (by omega) 0 _ rfl
    · rw [← (h3 j hj).2.1]; exact hc j (by omega) 1 _ rfl
  · obtain ⟨a, cap, hv⟩ := Row.sl h1
    exact ⟨a, cap, by rw [← h2]; exact hv, fun j hj => by omega⟩
def RawV (w : World) (v : Value) (m : Rw) : Prop := ∃ vs, v = .agg #[.int .i64 m.1, vs] ∧ Nds w vs m.2
theorem RawV.later {w w' : World} {v : Value} {m : Rw} (h : RawV w v m) {B : Nat} (hb : Below B w w') (hB : w.heap.size ≤ B) : RawV w' v m := by
  obtain ⟨vs, h1, h2⟩ := h
  exact ⟨vs, h1, h2.later hb hB⟩
def okR (m : Rw) : Prop := m.2.length * 40 ≤ 140737488351232 ∧ ∀ j, j < m.2.length → (el m.2 j).2.2.length * 32 ≤ 140737488351232
def wfR (m : Rw) : Prop := (Lit.int .i64 m.1).wf = true ∧ ∀ s ∈ m.2, (Lit.int .i64 s.1).wf = true ∧ ∀ a ∈ s.2.2, wfA a
section
variable {H : Type} {enc : TypeId × Value → H} {w : World} {base : Nat} {sp : Nat → Bool} {held : Bool}
theorem open_raw {fuel : Nat} {v0 v1 : Value} {y0 y1 : DataW H × List MemPlace}
    (h0 : DataW.trod enc Tryz.prog w base sp held fuel 3 [v0] = some y0) (h1 : DataW.trod enc Tryz.prog w base sp held fuel 22 [v1] = some y1) (hf : Fits Tryz.prog 22 y1.1) :
    ∃ m : Rw, RawV w (.agg #[v0, v1]) m ∧ okR m ∧ wfR m := by
  obtain ⟨z, e0, _, hz⟩ := DataW.trod_int Tryz.underlying3 h0
  simp at e0
  subst e0
  rcases open_rows Tryz.underlying22 Tryz.underlying63 (by kernel_rfl) (by kernel_rfl) h1 with ⟨hv, hx⟩ | ⟨a, len, cap, n, V, Y, rest, hv, hm, hl, hx, hc⟩
  · refine ⟨(z, []), ⟨v1, rfl, [], .inl ⟨hv, rfl⟩, rfl, by simp⟩, ⟨by simp, by simp⟩, hz, by simp⟩
  · have key : ∀ i, i < len → ∃ q : Value × Nd, w.cell? (a.add (i * 3)) = some (.int .i64 q.2.1) ∧ w.cell? (a.add (i * 3 + 1)) = some (.bool q.2.2.1) ∧ w.cell? (a.add (i * 3 + 2)) = some q.1 ∧ Arcs w q.1 q.2.2.2 ∧ (Lit.int .i64 q.2.1).wf = true ∧ (∀ a ∈ q.2.2.2, wfA a) ∧ q.2.2.2.length * 32 ≤ 140737488351232 := by
      intro i hi
      obtain ⟨c0, t0⟩ := hc i hi 0 _ rfl
      obtain ⟨c1, t1⟩ := hc i hi 1 _ rfl
      obtain ⟨c2, t2⟩ := hc i hi 2 _ rfl
      obtain ⟨q0, e0, _, w0⟩ := DataW.trod_int Tryz.underlying3 t0
      obtain ⟨q1, e1, _⟩ := DataW.trod_bool Tryz.underlying4 t1
      simp at e0 e1
      rw [e0] at c0
      rw [e1] at c1
      have hfi : Fits Tryz.prog 61 (Y i 2).1 := by
        rw [hx] at hf
        have hm : (.agg ((List.range 3).map fun f => (Y i f).1) : DataW H) ∈ (List.range len).map fun i => (.agg ((List.range 3).map fun f => (Y i f).1) : DataW H) := List.mem_map.2 ⟨i, List.mem_range.2 hi, rfl⟩
        exact (hf.elem Tryz.underlying22 hm).field Tryz.underlying63 (f := 2) rfl rfl
      obtain ⟨l, g1, g2, g3⟩ := open_arcs Tryz.underlying61 Tryz.underlying64 (by kernel_rfl) (by kernel_rfl) Tryz.underlying3 Tryz.underlying3 Tryz.underlying3 Tryz.underlying3 (by kernel_rfl) t2 hfi
      exact ⟨(V i 2, q0, q1, l), c0, c1, c2, g1, w0, g2, g3⟩
    obtain ⟨q, hq⟩ := Go.Deep.choose_lt key
    have hlen : ((List.range len).map fun i => (q i).2).length = len := by simp
    have hlen2 : ((List.range len).map fun i => ((q i).2.1, (q i).2.2.1, (q i).1)).length = len := by simp
    refine ⟨(z, (List.range len).map fun i => (q i).2), ⟨v1, rfl, (List.range len).map fun i => ((q i).2.1, (q i).2.2.1, (q i).1), .inr ⟨a, cap, by rw [hlen2]; exact hv, ?_⟩, by simp, ?_⟩, ⟨?_, ?_⟩, hz, ?_⟩
    · intro j hj i u hu
      rw [hlen2] at hj
      rw [el_range_map _ hj] at hu
      obtain ⟨g0, g1, g2, _⟩ := hq j hj
      match i, hu with
      | 0, hu => simp [encN] at hu; subst hu; exact g0
      | 1, hu => simp [encN] at hu; subst hu; exact g1
      | 2, hu => simp [encN] at hu; subst hu; exact g2
      | i + 3, hu => simp [encN] at hu
    · intro j hj
      rw [hlen] at hj
      rw [el_range_map _ hj, el_range_map _ hj]
      exact ⟨rfl, rfl, (hq j hj).2.2.2.1⟩
    · show ((List.range len).map fun i => (q i).2).length * 40 ≤ _
      rw [hlen]
      rw [hx] at hf
      have := hf.len Tryz.underlying22
      have hby : Tryz.prog.bytesOf 63 = 40 := by kernel_rfl
      rw [hby] at this
      simpa [reachBytes] using this
    · intro j hj
      have hj' : j < len := by rw [← hlen]; exact hj
      show (el ((List.range len).map fun i => (q i).2) j).2.2.length * 32 ≤ _
      rw [el_range_map _ hj']
      exact (hq j hj').2.2.2.2.2.2
    · intro s hs
      simp at hs
      obtain ⟨i, hi, rfl⟩ := hs
      exact ⟨(hq i hi).2.2.2.2.1, (hq i hi).2.2.2.2.2.1⟩
end
end Go.Proofs.YtfekmlblldhieaaGreatDoor.Wt
namespace Go.Proofs.YtfekmlblldhieaaGreatDoor.Wt
open Go.ChangeShapes Go.WideShapes Go.ChangeAt Go.RowKit
open Go.Proofs.YtfekmlblldhieaaGreatDoor.Pl
set_option linter.unusedVariables false
theorem picked_R (n many : Int) (w : World) (hn : (Lit.int .i64 n).wf = true) (hm : 0 < many) (hm2 : many ≤ 9223372036854775807) (r : Int) (hr : pkR n many = r) :
    Calls Tryz.prog 17 #[.int .i64 n, .int .i64 many] w fun e w' => e = .returned (.int .i64 r) ∧ w = w' := by
  subst hr
  obtain ⟨b1, b2⟩ := bounds_i64 hn
  clear hn
  by_cases h : n < 0
  · have HP : Hid (pkR n many = (-(n + 1)) % many) := by show _ = _; simp [pkR, h]
    go_enter Tryz.func17, Tryz.ntmps17
    go_wp2
    go_ret
    exact ⟨ret_intK (by rw [HP.out, ← Int.neg_tmod, Int.tmod_eq_emod_of_nonneg (by omega)]), rfl⟩
  · have HP : Hid (pkR n many = n % many) := by show _ = _; simp [pkR, h]
    go_enter Tryz.func17, Tryz.ntmps17
    go_wp2
    go_ret
    exact ⟨ret_intK (by rw [HP.out]), rfl⟩
/-- append(arcs, a): arcs the call's own, the arc laid in a new block. -/
theorem run_push_arc {W w1 : World} (p : Ar) (l : List Ar) (vo : Value) (base : Nat)
    (hW : W.heap = w1.heap.push (.cells #[.int .i64 p.1, .int .i64 p.2.1, .int .i64 p.2.2.1, .int .i64 p.2.2.2] 33)) (hos : W.os = w1.os) (htp : W.tape = w1.tape) (hou : W.output = w1.output)
    (hown : w1.ownsRow base 33 4 vo l.length (l.flatMap encA)) (hl : (l.length + 1) * 32 ≤ 140737488355328) (hbase : base ≤ w1.heap.size) :
    ∃ v3 w3, (Builtin.append_ #[29, 29] 29 #[vo, .slice (some ⟨w1.heap.size, 0, none⟩) 1 1]).run Tryz.prog W = .ok v3 w3 ∧ w3.ownsRow base 33 4 v3 (l ++ [p]).length ((l ++ [p]).flatMap encA) ∧ w1.grownBy w3 vo.ownBlock := by
  obtain ⟨i1, hi1, hy0, hy1, hy2⟩ := info_parts infoArc
  have e1 : ∀ k, k < w1.heap.size → W.heap[k]? = w1.heap[k]? := fun k hk => by rw [hW, Array.getElem?_push_lt hk, Array.getElem?_eq_getElem hk]
  have e0 : W.heap[w1.heap.size]? = some (.cells #[.int .i64 p.1, .int .i64 p.2.1, .int .i64 p.2.2.1, .int .i64 p.2.2.2] 33 (0, 0)) := by rw [hW]; simp
  have es : W.heap.size = w1.heap.size + 1 := by rw [hW]; simp
  have hg : w1.grownBy W none := ⟨hos, htp, hou, by omega, fun k hk _ => e1 k hk⟩
  have hvo := hown.kept hg (by rcases vo.ownBlock with _ | _ <;> simp)
  obtain ⟨v3, w3, hr, h1, h2, _⟩ := run_append_own (P := Tryz.prog) W base 29 29 33 i1 _ 4 32 Tryz.underlying29 hi1 hy0 hy1 hy2 rfl (by omega) vo l.length (l.flatMap encA) hvo ⟨w1.heap.size, 0, none⟩ 1 1 (encA p) rfl (World.news_of_block (cs := #[.int .i64 p.1, .int .i64 p.2.1, .int .i64 p.2.2.1, .int .i64 p.2.2.2]) e0) (encA_one p) (by unfold maxLen; omega) hl (by omega)
  refine ⟨v3, w3, hr, by simpa [encA] using h1, ⟨h2.os.trans hos, h2.tape.trans htp, h2.output.trans hou, by have := h2.size; omega, fun k hk hne => (h2.block k (by omega) hne).trans (e1 k hk)⟩⟩
end Go.Proofs.YtfekmlblldhieaaGreatDoor.Wt
