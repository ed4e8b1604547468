/- Parts and sets in memory; a map by texts: the place of each of them. certain.finalOf: what ends a set. certain.byLabels: arcs that are in order, a list for each pair of labels. certain.together: the arc that stands for all arcs of one pair of labels, and the set that it leads to. -/
import Derived.Test.YtfekmlblldhieaaDoorRn
import Derived.Test.YtfekmlblldhieaaDoorJ17j
import Derived.Test.YtfekmlblldhieaaDoorJ17r
import Derived.Test.YtfekmlblldhieaaDoorRg
import Derived.Maps.Own
import Derived.Maps.OwnSet
import Derived.Maps.Views
import Derived.WideKeyEntry
import Derived.BigQuiet
namespace Go.Proofs.YtfekmlblldhieaaDoor.Wt
open Go.ChangeShapes Go.WideShapes Go.ChangeAt Go.RowKit Go.Maps
open Go.Proofs.YtfekmlblldhieaaDoor.Pl
set_option linter.unusedVariables false
set_option linter.unusedSimpArgs false
/-- A part's two cells. -/
def encP (p : Pa) : List Value := [.int .i64 p.1, .int .i64 p.2]
theorem encP_len (p : Pa) : (encP p).length = 2 := rfl
theorem encP_one (p : Pa) : ∀ u ∈ encP p, u.oneCell' = true := by
  intro u hu
  simp [encP] at hu
  rcases hu with rfl | rfl <;> rfl
theorem infoPart : (Tryd.prog.info? 53).map (fun i => (i.zero, i.size, i.bytes)) = some (some (.agg #[.int .i64 0, .int .i64 0]), 2, 16) := by kernel_rfl
/-- Parts of the call's own. -/
def OwnP (w : World) (base : Nat) (v : Value) (ps : List Pa) : Prop := w.ownsRow base 53 2 v ps.length (ps.flatMap encP)
theorem OwnP.nil (w : World) (base : Nat) : OwnP w base (.slice none 0 0) [] := World.ownsRow_nil _ _ _ _
theorem OwnP.later {w w' : World} {base : Nat} {v : Value} {ps : List Pa} (h : OwnP w base v ps) (hb : Below w.heap.size w w') : OwnP w' base v ps := ownBelow h hb
theorem OwnP.mono {w : World} {base base' : Nat} {v : Value} {ps : List Pa} (h : OwnP w base v ps) (hb : base' ≤ base) : OwnP w base' v ps := ownMono h hb
theorem OwnP.sl {w : World} {base : Nat} {v : Value} {ps : List Pa} (h : OwnP w base v ps) : ∃ a cap, v = .slice a ps.length cap := own_sl h
theorem OwnP.one (w : World) (p : Pa) {base : Nat} (hb : base ≤ w.heap.size) : OwnP (w.alloc (.cells (encP p).toArray 53)) base (.slice (some ⟨w.heap.size, 0, none⟩) 1 1) [p] := by
  refine ⟨rfl, .inr ⟨w.heap.size, 1, (encP p).toArray, rfl, hb, Blk.made _ _ _, by simp, by unfold maxLen; omega, rfl, ?_⟩⟩
  simp [encP]
theorem OwnP.cell {w : World} {base : Nat} {a : Option Addr} {n cap : Nat} {ps : List Pa} (h : OwnP w base (.slice a n cap) ps) {j : Nat} (hj : j < ps.length) : ∃ b off, a = some ⟨b, off, none⟩ ∧ b < w.heap.size ∧ w.cell? ⟨b, off + j * 2, none⟩ = some (.int .i64 (el ps j).1) ∧ w.cell? ⟨b, off + j * 2 + 1, none⟩ = some (.int .i64 (el ps j).2) := by
  have hr : Row 2 encP w (.slice a n cap) ps := Row.ofOwn encP_len h rfl
  obtain ⟨b, off, cap', hv, hb, hc⟩ := hr.plain (fun x => by rw [encP_len]; omega) (by omega)
  obtain ⟨rfl, _, _⟩ : a = some ⟨b, off, none⟩ ∧ n = ps.length ∧ cap = cap' := by simpa using hv
  exact ⟨b, off, rfl, hb, hc j hj 0 _ rfl, hc j hj 1 _ rfl⟩
/-- to = append(to, p). -/
theorem OwnP.push {W : World} {base : Nat} {v : Value} {ps : List Pa} (h : OwnP W base v ps) (p : Pa) (hl : ps.length ≤ 100000) (hb : base ≤ W.heap.size) :
    ∃ v' w', (Builtin.append_ #[55, 55] 55 #[v, .slice (some ⟨W.heap.size, 0, none⟩) 1 1]).run Tryd.prog (W.alloc (.cells (encP p).toArray 53)) = .ok v' w' ∧ OwnP w' base v' (ps ++ [p]) ∧ Below base W w' ∧ (W.alloc (.cells (encP p).toArray 53)).grownBy w' v.ownBlock := by
  obtain ⟨i1, hi1, hy0, hy1, hy2⟩ := info_parts infoPart
  obtain ⟨v4, w4, r4, ho4, hg4, _⟩ := run_append_spot (P := Tryd.prog) (w := W.alloc (.cells (encP p).toArray 53)) encP_len (by decide) encP_one 55 55 base 53 i1 _ 16 Tryd.underlying55 hi1 hy0 hy1 hy2 rfl _ ps.length (ps.flatMap encP) (World.ownsRow.alloc h _) _ [p] (oneRow (enc := encP) W p rfl 53) (by simp; unfold maxLen; omega) (by simp; omega) (by simp; omega)
  have ho : OwnP w4 base v4 (ps ++ [p]) := by unfold OwnP; rw [List.length_append, List.flatMap_append]; exact ho4
  exact ⟨v4, w4, r4, ho, ((Below.refl _ _).alloc hb _).grown hg4 (by simp; omega) (own_geK h), hg4⟩
/-- A slice as it stands in a cell. -/
abbrev Slc := Option Addr × Nat × Nat
def slV (s : Slc) : Value := .slice s.1 s.2.1 s.2.2
def encL (s : Slc) : List Value := [.slice s.1 s.2.1 s.2.2]
theorem encL_len (s : Slc) : (encL s).length = 1 := rfl
theorem encL_one (s : Slc) : ∀ u ∈ encL s, u.oneCell' = true := by
  intro u hu
  simp [encL] at hu
  subst hu
  rfl
theorem infoSetC : (Tryd.prog.info? 55).map (fun i => (i.zero, i.size, i.bytes)) = some (some (.slice none 0 0), 1, 24) := by kernel_rfl
/-- Sets of the call's own. -/
def SetsM (w : World) (base : Nat) (v : Value) (L : List (List Pa)) : Prop := ∃ ss : List Slc, ss.length = L.length ∧ w.ownsRow base 55 1 v ss.length (ss.flatMap encL) ∧ ∀ j, j < L.length → OwnP w base (slV (el ss j)) (el L j)
theorem SetsM.nil (w : World) (base : Nat) : SetsM w base (.slice none 0 0) [] := ⟨[], rfl, World.ownsRow_nil _ _ _ _, fun j hj => absurd hj (by simp)⟩
theorem SetsM.later {w w' : World} {base : Nat} {v : Value} {L : List (List Pa)} (h : SetsM w base v L) (hb : Below w.heap.size w w') : SetsM w' base v L := by
  obtain ⟨ss, h1, h2, h3⟩ := h
  exact ⟨ss, h1, ownBelow h2 hb, fun j hj => (h3 j hj).later hb⟩
theorem SetsM.sl {w : World} {base : Nat} {v : Value} {L : List (List Pa)} (h : SetsM w base v L) : ∃ a c, v = .slice a L.length c := by
  obtain ⟨ss, h1, h2, h3⟩ := h
  obtain ⟨a, c, hv⟩ := own_sl h2
  exact ⟨a, c, by rw [hv, h1]⟩
theorem SetsM.get {w : World} {base : Nat} {a : Option Addr} {n cap : Nat} {L : List (List Pa)} (h : SetsM w base (.slice a n cap) L) {q : Nat} (hq : q < L.length) : ∃ G b c, a = some ⟨G, 0, none⟩ ∧ G < w.heap.size ∧ w.cell? ⟨G, q, none⟩ = some (.slice b (el L q).length c) ∧ OwnP w base (.slice b (el L q).length c) (el L q) := by
  obtain ⟨ss, h1, h2, h3⟩ := h
  have h2' := h2
  rcases h2.2 with ⟨_, h0⟩ | ⟨G, cap, cur, hv, hb, hG, _⟩
  · omega
  · injection hv with e1 _ _
    have h4 := h3 q hq
    obtain ⟨b, c, hs⟩ := h4.sl
    refine ⟨G, b, c, e1, lt_of_block hG, ?_, by rw [← hs]; exact h4⟩
    have h9 := h2'.cells (g := G) (by rw [e1]; rfl) q (slV (el ss q)) (by
      have := flat_at encL_len ss q (by omega) 0 (by omega)
      rw [Nat.mul_one, Nat.add_zero] at this
      rw [this]; rfl)
    rw [Addr.add_lit, Nat.zero_add, hs] at h9
    exact h9
/-- Another row has grown: the sets stay. -/
theorem SetsM.kept {w w' : World} {base b' : Nat} {v vo : Value} {L : List (List Pa)} {e : TypeId} {s n : Nat} {ms : List Value} (h : SetsM w base v L) (ho : w.ownsRow b' e s vo n ms) (he : e ≠ 55) (hi : e ≠ 53) (hg : w.grownBy w' vo.ownBlock) : SetsM w' base v L := by
  obtain ⟨ss, h1, h2, h3⟩ := h
  exact ⟨ss, h1, h2.kept hg (own_apart h2 ho (Ne.symm he)), fun j hj => World.ownsRow.kept (h3 j hj) hg (own_apart (h3 j hj) ho (Ne.symm hi))⟩
theorem SetsM.setB {w : World} {base : Nat} {v : Value} {L : List (List Pa)} (h : SetsM w base v L) {b : Nat} {cs : Array Value} {t : TypeId} (hb : Blk w b cs t) (ht : 55 ≠ t) (hi : 53 ≠ t) (o : Nat) (u : Value) : SetsM (w.setCell ⟨b, o, none⟩ u) base v L := by
  obtain ⟨ss, h1, h2, h3⟩ := h
  exact ⟨ss, h1, h2.kept (gSet w b o u) (.inr (Ne.symm (own_ne h2 hb ht))), fun j hj => World.ownsRow.kept (h3 j hj) (gSet w b o u) (.inr (Ne.symm (own_ne (h3 j hj) hb hi)))⟩
/-- sets = append(sets, s). -/
theorem SetsM.push {W : World} {base : Nat} {v : Value} {L : List (List Pa)} (h : SetsM W base v L) {a : Option Addr} {n c : Nat} {ps : List Pa} (hp : OwnP W base (.slice a n c) ps) (hl : L.length ≤ 100000) (hb : base ≤ W.heap.size) :
    ∃ v' w', (Builtin.append_ #[48, 48] 48 #[v, .slice (some ⟨W.heap.size, 0, none⟩) 1 1]).run Tryd.prog (W.alloc (.cells #[.slice a n c] 55)) = .ok v' w' ∧ SetsM w' base v' (L ++ [ps]) ∧ Below base W w' ∧ (W.alloc (.cells #[.slice a n c] 55)).grownBy w' v.ownBlock := by
  obtain ⟨i1, hi1, hy0, hy1, hy2⟩ := info_parts infoSetC
  obtain ⟨ss, h1, h2, h3⟩ := h
  have hA : Below W.heap.size W (W.alloc (.cells #[.slice a n c] 55)) := (Below.refl _ _).alloc (Nat.le_refl _) _
  obtain ⟨v4, w4, r4, ho4, hg4, _⟩ := run_append_spot (P := Tryd.prog) (w := W.alloc (.cells (encL (a, n, c)).toArray 55)) encL_len (by decide) encL_one 48 48 base 55 i1 _ 24 Tryd.underlying48 hi1 hy0 hy1 hy2 rfl _ ss.length (ss.flatMap encL) (World.ownsRow.alloc h2 _) _ [(a, n, c)] (oneRow (enc := encL) W (a, n, c) rfl 55) (by simp; unfold maxLen; omega) (by simp; omega) (by simp; omega)
  have hkeep : ∀ v ps, OwnP W base v ps → OwnP w4 base v ps := fun v ps k => World.ownsRow.kept (OwnP.later k hA) hg4 (own_apart (OwnP.later k hA) (World.ownsRow.alloc h2 _) (by decide))
  refine ⟨v4, w4, r4, ⟨ss ++ [(a, n, c)], by simp [h1], by rw [List.length_append, List.flatMap_append]; exact ho4, fun j hj => ?_⟩, ((Below.refl _ _).alloc hb _).grown hg4 (by simp; omega) (own_geK h2), hg4⟩
  rw [List.length_append] at hj
  simp at hj
  by_cases e : j < L.length
  · rw [el_left (by omega), el_left e]
    exact hkeep _ _ (h3 j e)
  · obtain rfl : j = L.length := by omega
    have e1 : el (ss ++ [(a, n, c)]) L.length = (a, n, c) := by rw [← h1]; exact el_last _ _
    rw [e1, el_last]
    exact hkeep _ _ hp
theorem lawTx : Keyed Tryd.prog 9 := string_keyed Tryd.underlying9
theorem wfNat {n : Int} (h0 : 0 ≤ n) (h : n ≤ 100000000000000) : (Lit.int .i64 n).wf = true := by
  simp [Lit.wf, IntKind.min, IntKind.max, IntKind.signed, IntKind.bits]
  omega
/-- The map at block m tells of each of these texts where it stands, and of no others. -/
def TxM (w : World) (m : Nat) (ks : List (List UInt8)) : Prop :=
  ∃ D : DataW Unit, w.ownsMap Tryd.prog 9 (plainElem Tryd.prog 3) m ks.length D ∧ Maps.size D = ks.length ∧
    ∀ p : List UInt8, (∀ i, i < ks.length → el ks i = p → has D (.string p) = true ∧ D.atKey (.string p) (.lit (.int .i64 0)) = .lit (.int .i64 (i : Int))) ∧ (p ∉ ks → has D (.string p) = false ∧ D.atKey (.string p) (.lit (.int .i64 0)) = .lit (.int .i64 0))
theorem TxM.lt {w : World} {m : Nat} {ks : List (List UInt8)} (h : TxM w m ks) : m < w.heap.size := by obtain ⟨D, h, _⟩ := h; exact h.lt
theorem TxM.made (w : World) : TxM (w.alloc (.map #[] 0)) w.heap.size [] :=
  ⟨_, World.ownsMap_made w _ _ _, rfl, fun p => ⟨fun i hi => absurd hi (by simp), fun _ => ⟨rfl, by simp [DataW.atKey]⟩⟩⟩
theorem TxM.keep {w w' : World} {m : Nat} {ks : List (List UInt8)} (h : TxM w m ks) (e : w'.heap[m]? = w.heap[m]?) : TxM w' m ks := by
  obtain ⟨D, ⟨es, clock, hb, h0⟩, h1⟩ := h
  exact ⟨D, ⟨es, clock, e.trans hb, h0⟩, h1⟩
theorem TxM.neBlk {w : World} {m b : Nat} {ks : List (List UInt8)} (h : TxM w m ks) {cs : Array Value} {t : TypeId} (hb : Blk w b cs t) : m ≠ b := by
  obtain ⟨D, h, _⟩ := h
  exact Ne.symm (map_ne_blk hb h)
theorem TxM.neRow {w : World} {m base : Nat} {ks : List (List UInt8)} {e : TypeId} {s : Nat} {v : Value} {n : Nat} {xs : List Value} (h : TxM w m ks) (ho : w.ownsRow base e s v n xs) : some m ≠ v.ownBlock := by
  obtain ⟨D, ⟨es, clock, hb, _⟩, _⟩ := h
  rcases ho.2 with ⟨rfl, _⟩ | ⟨g, cap', cur, rfl, hbg, hg, _⟩
  · simp [Value.ownBlock]
  · simp only [Value.ownBlock]
    intro e2
    simp at e2
    subst e2
    rw [hb] at hg
    cases hg
theorem zeroTx (w : World) : (zeroValue 3).run Tryd.prog w = .ok (.int .i64 0) w := by kernel_rfl
theorem keyTx {p : List UInt8} (h : p.length ≤ 1000000) : keyOf Tryd.prog 9 (.string ⟨p.toArray⟩) = some (.string p) := by
  have h9 := Go.WideMaps.keyOf_string_mk (P := Tryd.prog) Tryd.underlying9 (s := ⟨p.toArray⟩) (by show p.toArray.size ≤ maxLen; unfold maxLen; simp; omega)
  simpa using h9
set_option maxRecDepth 100000 in
theorem TxM.look {w : World} {m : Nat} {ks : List (List UInt8)} (h : TxM w m ks) {p : List UInt8} (hp : p.length ≤ 1000000) :
    (∃ i, i < ks.length ∧ el ks i = p ∧ (Instr.lookup 47 (.map (some m)) (.string ⟨p.toArray⟩) true).run Tryd.prog w = .ok (.tuple #[.int .i64 (i : Int), .bool true]) w) ∨
    (p ∉ ks ∧ (Instr.lookup 47 (.map (some m)) (.string ⟨p.toArray⟩) true).run Tryd.prog w = .ok (.tuple #[.int .i64 0, .bool false]) w) := by
  obtain ⟨D, h1, _, h3⟩ := h
  have hk := keyTx hp
  obtain ⟨v, ps, hr, hv⟩ := World.ownsMap.look_ok h1 lawTx Tryd.underlying47 (zeroTx w) (plainElem_int Tryd.underlying3 (by decide)) hk
  obtain ⟨c, rfl, hc, _⟩ := plainElem_int_inv Tryd.underlying3 hv
  have hc' := congrArg Prod.fst hc
  simp only at hc'
  obtain ⟨g1, g2⟩ := h3 p
  by_cases he : p ∈ ks
  · obtain ⟨i, hi, hd⟩ := mem_el he
    obtain ⟨k1, k2⟩ := g1 i hi hd
    left
    refine ⟨i, hi, hd, ?_⟩
    rw [k2] at hc'
    rw [k1] at hr
    injection hc' with e1
    injection e1 with _ e2
    rw [← e2] at hr
    exact hr
  · right
    rw [(g2 he).1] at hr
    rw [(g2 he).2] at hc'
    injection hc' with e1
    injection e1 with _ e2
    rw [← e2] at hr
    exact ⟨he, hr⟩
set_option maxRecDepth 100000 in
theorem TxM.put {w : World} {m : Nat} {ks : List (List UInt8)} (h : TxM w m ks) {p : List UInt8} (hp : p.length ≤ 1000000) (hno : p ∉ ks) (hn : ks.length < 100000) :
    ∃ w', (Instr.mapUpdate 47 (.map (some m)) (.string ⟨p.toArray⟩) (.int .i64 (ks.length : Int))).run Tryd.prog w = .ok () w' ∧ TxM w' m (ks ++ [p]) ∧ w.grownBy w' (some m) := by
  obtain ⟨D, h1, h2, h3⟩ := h
  have hk := keyTx hp
  obtain ⟨w', hu, ho, hg⟩ := World.ownsMap.update (R := plainElem Tryd.prog 3) h1 lawTx Tryd.underlying47 (by unfold maxLen; omega) hk (plainElem_int Tryd.underlying3 (wfNat (n := (ks.length : Int)) (by omega) (by omega)))
  refine ⟨w', hu, ⟨_, by rw [List.length_append]; exact ho, ?_, fun q => ?_⟩, hg⟩
  · rw [size_put (h1.tidy lawTx), ((h3 p).2 hno).1, h2]
    simp
  · by_cases e : q = p
    · subst e
      refine ⟨fun i hi hd => ⟨has_put_same h1.isMap (lawTx.key hk) _, ?_⟩, fun hq => absurd (List.mem_append_right _ List.mem_cons_self) hq⟩
      rw [atKey_put_same h1.isMap (lawTx.key hk)]
      rw [List.length_append] at hi
      simp at hi
      by_cases ei : i < ks.length
      · rw [el_left ei] at hd
        exact absurd (hd ▸ el_mem ei) hno
      · obtain rfl : i = ks.length := by omega
        rfl
    · have hne : Lit.string q ≠ Lit.string p := fun h => by
        injection h with h
        exact e h
      obtain ⟨g1, g2⟩ := h3 q
      refine ⟨fun i hi hd => ?_, fun hq => ?_⟩
      · rw [List.length_append] at hi
        simp at hi
        by_cases ei : i < ks.length
        · rw [el_left ei] at hd
          obtain ⟨k1, k2⟩ := g1 i ei hd
          exact ⟨(has_put_other hne _).trans k1, (atKey_put_other hne _ _).trans k2⟩
        · obtain rfl : i = ks.length := by omega
          rw [el_last] at hd
          exact absurd hd.symm e
      · obtain ⟨k1, k2⟩ := g2 fun hd => hq (List.mem_append_left _ hd)
        exact ⟨(has_put_other hne _).trans k1, (atKey_put_other hne _ _).trans k2⟩
end Go.Proofs.YtfekmlblldhieaaDoor.Wt
namespace Go.Proofs.YtfekmlblldhieaaDoor.Wt
open Go.ChangeShapes Go.WideShapes Go.ChangeAt Go.RowKit
open Go.Proofs.YtfekmlblldhieaaDoor.Pl
set_option linter.unusedVariables false
set_option linter.unusedSimpArgs false
set_option maxRecDepth 100000 in
set_option maxHeartbeats 3200000 in
theorem finalOf_any (vm : Value) (m : Mc) (base : Nat) (v : Value) (ps : List Pa) (w : World) (hM : Mach w vm m) (hf : faultM m = 0) (h : OwnP w base v ps) (hs : ∀ p ∈ ps, SmP m.2.length 1000000000000 p) (hl : ps.length ≤ 1000) (r0 r1 : Int) (hr0 : tldN (mnL (fnsP m.2 ps)) = r0) (hr1 : tldE (mnL (fnsP m.2 ps)) = r1) :
    Calls Tryd.prog 37 #[vm, v] w fun e w' => e = .returned (.tuple #[.int .i64 r0, .int .i64 r1]) ∧ Below w.heap.size w w' := by
  obtain ⟨z, l⟩ := m
  simp only at hs hr0 hr1
  obtain ⟨vs, rfl, hSt⟩ := hM
  obtain ⟨a, cap, rfl, hc⟩ := hSt.get
  simp only at hc ⊢
  have HC := hidP hc
  have HFB : Hid (∀ q, q < l.length → 0 ≤ (el l q).1 ∧ (el l q).1 ≤ 1000000001) := fun q hq => by
    have h1 := (right_states hf q hq).1
    simp [finB, inB] at h1
    omega
  have h60 := (right_size hf).1
  have HP := hidP h
  have HEL : Hid (∀ k, k < ps.length → SmP l.length 1000000000000 (el ps k)) := fun k hk => hs _ (el_mem hk)
  have HST : Hid (∀ k, k < ps.length → ∀ p, el ps k = p → ∀ f, (el l p.1.toNat).1 = f → 0 ≤ p.2 → p.2 ≤ 1000000000000 → 0 ≤ f → f ≤ 1000000001 → mnL (fnsP l (ps.take (k + 1))) = if f = 1000000001 then mnL (fnsP l (ps.take k)) else if p.2 + f < mnL (fnsP l (ps.take k)) then p.2 + f else mnL (fnsP l (ps.take k))) := fun k hk p hp f hf h0 h1 f0 f1 => fnsP_step hk hp hf h0 h1 f0 f1
  have HALL : Hid (mnL (fnsP l (ps.take ps.length)) = mnL (fnsP l ps)) := by show _ = _; rw [List.take_length]
  obtain ⟨av, cv, rfl⟩ := h.sl
  have HB0 : Hid (Below w.heap.size w (w.alloc (.cells #[.int .i64 z, .slice a l.length cap] 24))) := (Below.refl _ _).alloc (Nat.le_refl _) _
  have HK0 := hidP (Blk.made w #[.int .i64 z, .slice a l.length cap] 24)
  have HR0 := hidP hr0
  have HR1 := hidP hr1
  clear h hs hc hSt hf hr0 hr1
  obtain ⟨n, hn⟩ : ∃ n, ps.length = n := ⟨_, rfl⟩
  rw [hn] at hl HST HALL HEL ⊢
  have HN := hidP hn
  clear hn
  obtain ⟨nl, hnl⟩ : ∃ nl, l.length = nl := ⟨_, rfl⟩
  rw [hnl] at HC HFB h60 HEL HB0 HK0 ⊢
  clear hnl
  go_enter Tryd.func37, Tryd.ntmps37
  go_wp2
  go_loopw [6, 12] (fun s6 i wr => ∃ (k : Nat) (y : Int), k ≤ n ∧ s6 = .int .i64 (toX y) ∧ i = .int .i64 k ∧ y ≤ noneI ∧ Hid (mnL (fnsP l (ps.take k)) = y) ∧ Hid (Below w.heap.size w wr) ∧ Hid (Blk wr w.heap.size #[.int .i64 z, .slice a nl cap] 24)) (fun _ i _ => n - (intOf i).toNat)
  case atStart => exact ⟨0, noneI, Nat.zero_le _, rfl, rfl, Int.le_refl _, rfl, HB0, HK0⟩
  case round =>
    clear HB0 HK0
    obtain ⟨k, y, hk, rfl, rfl, hyn, hy, hW, hK⟩ := hrel
    obtain ⟨w1, hw1⟩ : ∃ w1, w1 = wr := ⟨_, rfl⟩
    subst hw1
    by_cases hlt : k < n
    · have k0 : (0 : Int) ≤ (k : Int) := Int.natCast_nonneg _
      have k1 : (k : Int) < (n : Int) := by omega
      obtain ⟨b, off, hab, hbl, c0, c1⟩ := HP.out.cell (j := k) (by rw [HN.out]; exact hlt)
      subst hab
      have c0 := (hW.out.cell (p := ⟨b, off + k * 2, none⟩) hbl).trans c0
      have c1 := (hW.out.cell (p := ⟨b, off + k * 2 + 1, none⟩) hbl).trans c1
      have hsm := HEL.out k hlt
      have HSK := hidP (HST.out k hlt)
      obtain ⟨pk, hpk⟩ : ∃ pk, el ps k = pk := ⟨_, rfl⟩
      rw [hpk] at c0 c1 hsm HSK
      have HSK := hidP (HSK.out pk rfl)
      clear hpk
      obtain ⟨p0, p1⟩ := pk
      simp only [SmP] at hsm c0 c1 HSK
      obtain ⟨t, rfl⟩ : ∃ t : Nat, p0 = (t : Int) := ⟨p0.toNat, by omega⟩
      have t0 : (0 : Int) ≤ (t : Int) := Int.natCast_nonneg _
      have t1 : (t : Int) < (nl : Int) := hsm.2.1
      obtain ⟨b2, off2, va, ha2, hb2, x0, _⟩ := HC.out t (by omega)
      subst ha2
      have x0 := (hW.out.cell (p := ⟨b2, off2 + t * 2, none⟩) hb2).trans x0
      have hfb := HFB.out t (by omega)
      simp only [Int.toNat_natCast] at HSK
      obtain ⟨f, hf⟩ : ∃ f, (el l t).1 = f := ⟨_, rfl⟩
      rw [hf] at x0 hfb
      have HSK := hidP (HSK.out f hf hsm.2.2.1 hsm.2.2.2 hfb.1 hfb.2)
      rw [hy.out] at HSK
      clear hf
      have hlW := hW.out.size
      have hlK := hK.out.lt
      have hA := (Below.refl w1.heap.size w1).alloc (Nat.le_refl _) (.cells #[.int .i64 (t : Int), .int .i64 p1] 53)
      have W1 := hidP (hW.out.trans (hA.mono hW.out.size))
      have K1 := hidP (hK.out.alloc (.cells #[.int .i64 (t : Int), .int .i64 p1] 53))
      have d1 := hK.out.cell 1 (v := .slice (some ⟨b2, off2, none⟩) nl cap) rfl
      have hbw : b2 < w1.heap.size := by omega
      have hbw3 : b < w1.heap.size := by omega
      by_cases e1 : f = 1000000001
      · rw [if_pos e1] at HSK
        have e1' : (f != 1000000001) = false := by rw [e1]; rfl
        clear e1
        go_wp2
        go_roundw
        case rel => exact ⟨k + 1, y, by omega, rfl, by go_num, hyn, HSK, W1, K1⟩
        case measure => simp [intOf]; omega
      · rw [if_neg e1] at HSK
        have e1' : (f != 1000000001) = true := by simpa using e1
        have hwr : IntKind.i64.wrap (p1 + f) = p1 + f := wrapI (by omega) (by omega)
        have HMN := hidP (toX_min (y := y) (c := p1 + f) hyn (by unfold noneI; omega) (by omega))
        have hmn : min (toX y) (p1 + f) = toX (if p1 + f < y then p1 + f else y) := by rw [← HMN.out]; split <;> omega
        have hyn2 : (if p1 + f < y then p1 + f else y) ≤ noneI := by split <;> omega
        obtain ⟨y2, hy2⟩ : ∃ y2, (if p1 + f < y then p1 + f else y) = y2 := ⟨_, rfl⟩
        rw [hy2] at HSK HMN hmn hyn2
        clear hy2 e1
        by_cases hlt2 : p1 + f < toX y
        · have hq : p1 + f = toX y2 := by rw [← HMN.out, if_pos hlt2]
          have HQ := hidP hq
          clear hq hmn
          go_wp2
          go_roundw
          case rel => exact ⟨k + 1, y2, by omega, by rw [HQ.out], by go_num, hyn2, HSK, W1, K1⟩
          case measure => simp [intOf]; omega
        · have hq : toX y = toX y2 := by rw [← HMN.out, if_neg hlt2]
          have HQ := hidP hq
          clear hq hmn
          go_wp2
          go_roundw
          case rel => exact ⟨k + 1, y2, by omega, by rw [HQ.out], by go_num, hyn2, HSK, W1, K1⟩
          case measure => simp [intOf]; omega
    · have hk1 : ¬ (k : Int) < (n : Int) := by omega
      obtain rfl : k = n := by omega
      rw [hy.out] at HALL
      rw [← HALL.out] at HR0 HR1
      unfold tldN at HR0
      unfold tldE at HR1
      unfold toX
      by_cases e1 : y = noneI
      · rw [if_pos e1] at HR0 HR1 ⊢
        have q0 : r0 = 1000000001 := HR0.out.symm
        have q1 : r1 = 0 := HR1.out.symm
        subst q0 q1
        clear e1 hy HALL
        go_wp2
        go_ret2
        exact ⟨rfl, hW.out⟩
      · rw [if_neg e1] at HR0 HR1 ⊢
        have e1' : (y == 9223372036854775807) = false := by unfold noneI at hyn; simp; omega
        by_cases e2 : 1000000000 < y
        · rw [if_pos e2] at HR0 HR1
          have q0 : r0 = 0 := HR0.out.symm
          have q1 : r1 = 4 := HR1.out.symm
          subst q0 q1
          clear e1 hy HALL
          go_wp2
          go_ret2
          exact ⟨rfl, hW.out⟩
        · rw [if_neg e2] at HR0 HR1
          have q0 : r0 = y := HR0.out.symm
          have q1 : r1 = 0 := HR1.out.symm
          subst q0 q1
          clear e1 hy HALL
          go_wp2
          go_ret2
          exact ⟨rfl, hW.out⟩
end Go.Proofs.YtfekmlblldhieaaDoor.Wt
namespace Go.Proofs.YtfekmlblldhieaaDoor.Wt
open Go.ChangeShapes Go.WideShapes Go.ChangeAt Go.RowKit
open Go.Proofs.YtfekmlblldhieaaDoor.Pl
set_option linter.unusedVariables false
set_option linter.unusedSimpArgs false
theorem slThreeJ {v : Value} {n : Nat} (h : ∃ a c, v = .slice a n c) : ∃ a k c, v = .slice a k c := by obtain ⟨a, c, e⟩ := h; exact ⟨a, n, c, e⟩
theorem own_capJ {w : World} {base : Nat} {e : TypeId} {s : Nat} {a : Option Addr} {n n' cap : Nat} {xs : List Value} (h : w.ownsRow base e s (.slice a n cap) n' xs) : n ≤ cap := by
  rcases h.2 with ⟨hv, _⟩ | ⟨g, cap', cur, hv, _, _, hnc, _⟩
  · injection hv with _ h2 h3; omega
  · injection hv with _ h2 h3; omega
theorem elemArcJ : Tryd.prog.underlying 44 = some (.slice (Tryd.prog.elem 44)) := by kernel_rfl
theorem sizeArcJ (w : World) : (sizeOf (Tryd.prog.elem 44)).run Tryd.prog w = .ok 4 w := by kernel_rfl
/-- A piece of arcs as a slice. -/
def slA (a : Option Addr) (cap : Nat) (c : Nat × Nat) : Slc := (a.map (·.add (c.1 * 4)), c.2, cap - c.1)
theorem run_pieJ (a : Option Addr) (n cap f k : Nat) (hf : f < k) (hk : k ≤ cap) (W : World) : (Instr.sliceAt 44 (.slice a n cap) (some (.int .i64 (f : Int))) (some (.int .i64 (k : Int))) none).run Tryd.prog W = .ok (.slice (slA a cap (f, k - f)).1 (slA a cap (f, k - f)).2.1 (slA a cap (f, k - f)).2.2) W := by
  rw [run_sliceAt_slice _ _ _ _ _ _ elemArcJ, run_slice_lh _ _ _ _ _ elemArcJ _ _ _ _ (by omega) (by omega) (by omega), sizeArcJ]
  simp only [Result.andThen_ok, sliced, Int.toNat_natCast]
  rw [if_neg (by omega)]
  rfl
theorem run_endJ (a : Option Addr) (n cap f : Nat) (hf : f < n) (hk : n ≤ cap) (W : World) : (Instr.sliceAt 44 (.slice a n cap) (some (.int .i64 (f : Int))) none none).run Tryd.prog W = .ok (.slice (slA a cap (f, n - f)).1 (slA a cap (f, n - f)).2.1 (slA a cap (f, n - f)).2.2) W := by
  rw [run_sliceAt_slice _ _ _ _ _ _ elemArcJ, run_slice_l _ _ _ _ _ elemArcJ _ _ (by omega) (by omega), sizeArcJ]
  simp only [Result.andThen_ok, sliced, Int.toNat_natCast]
  rw [if_neg (by omega)]
  rfl
theorem infoArcsJ : (Tryd.prog.info? 44).map (fun i => (i.zero, i.size, i.bytes)) = some (some (.slice none 0 0), 1, 24) := by kernel_rfl
/-- Lists of arcs of the call's own: pieces of one. -/
def LstM (w : World) (base : Nat) (v : Value) (a : Option Addr) (cap : Nat) (cs : List (Nat × Nat)) : Prop := w.ownsRow base 44 1 v cs.length ((cs.map (slA a cap)).flatMap encL)
theorem LstM.nil (w : World) (base : Nat) (a : Option Addr) (cap : Nat) : LstM w base (.slice none 0 0) a cap [] := World.ownsRow_nil _ _ _ _
theorem LstM.later {w w' : World} {base : Nat} {v : Value} {a : Option Addr} {cap : Nat} {cs : List (Nat × Nat)} (h : LstM w base v a cap cs) (hb : Below w.heap.size w w') : LstM w' base v a cap cs := ownBelow h hb
theorem LstM.drewN' {w : World} {base : Nat} {v : Value} {a : Option Addr} {cap : Nat} {cs : List (Nat × Nat)} (h : LstM w base v a cap cs) (n : Nat) : LstM (w.drewN n) base v a cap cs := h.later ⟨rfl, rfl, rfl, Nat.le_refl _, fun _ _ => rfl⟩
theorem Below.drewNJ {B : Nat} {w w' : World} (h : Below B w w') (n : Nat) : Below B w (w'.drewN n) := ⟨h.os, h.tape, h.output, h.size, h.block⟩
theorem LstM.sl {w : World} {base : Nat} {v : Value} {a : Option Addr} {cap : Nat} {cs : List (Nat × Nat)} (h : LstM w base v a cap cs) : ∃ b c, v = .slice b cs.length c := own_sl h
theorem LstM.push {W : World} {base : Nat} {v : Value} {a : Option Addr} {cap : Nat} {cs : List (Nat × Nat)} (h : LstM W base v a cap cs) (c : Nat × Nat) (hl : cs.length ≤ 100000) (hb : base ≤ W.heap.size) :
    ∃ v' w', (Builtin.append_ #[81, 81] 81 #[v, .slice (some ⟨W.heap.size, 0, none⟩) 1 1]).run Tryd.prog (W.alloc (.cells #[.slice (slA a cap c).1 (slA a cap c).2.1 (slA a cap c).2.2] 44)) = .ok v' w' ∧ LstM w' base v' a cap (cs ++ [c]) ∧ Below base W w' := by
  obtain ⟨i1, hi1, hy0, hy1, hy2⟩ := info_parts infoArcsJ
  obtain ⟨v4, w4, r4, ho4, hg4, _⟩ := run_append_spot (P := Tryd.prog) (w := W.alloc (.cells (encL (slA a cap c)).toArray 44)) encL_len (by decide) encL_one 81 81 base 44 i1 _ 24 Tryd.underlying81 hi1 hy0 hy1 hy2 rfl _ cs.length ((cs.map (slA a cap)).flatMap encL) (World.ownsRow.alloc h _) _ [slA a cap c] (oneRow (enc := encL) W (slA a cap c) rfl 44) (by simp; unfold maxLen; omega) (by simp; omega) (by simp; omega)
  refine ⟨v4, w4, r4, ?_, ((Below.refl _ _).alloc hb _).grown hg4 (by simp; omega) (own_geK h)⟩
  unfold LstM
  rw [List.length_append, List.map_append, List.flatMap_append]
  exact ho4
set_option maxRecDepth 100000 in
set_option maxHeartbeats 3200000 in
theorem byLabels_any (base : Nat) (a : Option Addr) (n cap : Nat) (l : List Ar) (w : World) (h : OwnArcs w base (.slice a n cap) l) (hn : n = l.length) (hl : n ≤ 100000) (hcl : ∀ k, k ≤ l.length → CutI l k (cutS l k).1 (cutS l k).2) :
    Calls Tryd.prog 38 #[.slice a n cap] w fun e w' => ∃ vr, e = .returned vr ∧ LstM w' w.heap.size vr a cap (cutL l) ∧ Below w.heap.size w w' := by
  have hcap := own_capJ h
  have HA := hidP h.arcs
  have HCI : Hid (∀ k, k ≤ n → CutI l k (cutS l k).1 (cutS l k).2) := fun k hk => hcl k (by omega)
  have HSU : Hid (∀ k, cutS l (k + 1) = if labA (el l k) = labA (el l (cutS l k).2) then cutS l k else ((cutS l k).1 ++ [((cutS l k).2, k - (cutS l k).2)], k)) := fun k => rfl
  have HCU : Hid (cutL l = if (cutS l n).2 < n then (cutS l n).1 ++ [((cutS l n).2, n - (cutS l n).2)] else (cutS l n).1) := by show _ = _; rw [hn]; rfl
  have HN := hidP hn
  have L0 := hidP (LstM.nil w w.heap.size a cap)
  have W0 := hidP (Below.refl w.heap.size w)
  have HLC : Hid (∀ k, (cutS l k).1.length ≤ k) := fun k => by
    induction k with
    | zero => simp [cutS]
    | succ k ih =>
      unfold cutS
      split
      · omega
      · simp; omega
  clear h hcl hn
  go_enter Tryd.func38, Tryd.ntmps38
  go_wp2
  go_loopw [3, 4, 9] (fun s3 s4 i wr => ∃ (k : Nat) (cs : List (Nat × Nat)) (f : Nat) (vl : Value), k ≤ n ∧ vl = s3 ∧ s4 = .int .i64 (f : Int) ∧ i = .int .i64 k ∧ f ≤ k ∧ Hid (cutS l k = (cs, f)) ∧ Hid (LstM wr w.heap.size vl a cap cs) ∧ Hid (Below w.heap.size w wr)) (fun _ _ i _ => n - (intOf i).toNat)
  case atStart => exact ⟨0, [], 0, _, Nat.zero_le _, rfl, rfl, rfl, Nat.le_refl _, rfl, L0, W0⟩
  case round =>
    clear L0 W0
    obtain ⟨k, cs, f, vl, hk, rfl, rfl, rfl, hfk, hcs, hL, hW⟩ := hrel
    obtain ⟨w1, hw1⟩ : ∃ w1, w1 = wr := ⟨_, rfl⟩
    subst hw1
    by_cases hlt : k < n
    · have k0 : (0 : Int) ≤ (k : Int) := Int.natCast_nonneg _
      have k1 : (k : Int) < (n : Int) := by omega
      have f0 : (0 : Int) ≤ (f : Int) := Int.natCast_nonneg _
      have f1 : (f : Int) < (n : Int) := by omega
      obtain ⟨b, off, hab, hbl, c0, c1, c2, c3⟩ := arcs_at HA.out (j := k) (by rw [← HN.out]; exact hlt)
      obtain ⟨b', off', hab', _, e0, e1, _, _⟩ := arcs_at HA.out (j := f) (by rw [← HN.out]; omega)
      rw [hab] at hab'
      injection hab' with hab'
      injection hab' with hb1 hb2 _
      subst hb1 hb2
      subst hab
      have c0 := (hW.out.cell (p := ⟨b, off + k * 4, none⟩) hbl).trans c0
      have c1 := (hW.out.cell (p := ⟨b, off + k * 4 + 1, none⟩) hbl).trans c1
      have c2 := (hW.out.cell (p := ⟨b, off + k * 4 + 2, none⟩) hbl).trans c2
      have c3 := (hW.out.cell (p := ⟨b, off + k * 4 + 3, none⟩) hbl).trans c3
      have e0 := (hW.out.cell (p := ⟨b, off + f * 4, none⟩) hbl).trans e0
      have e1 := (hW.out.cell (p := ⟨b, off + f * 4 + 1, none⟩) hbl).trans e1
      have HS1 := hidP (HSU.out k)
      rw [hcs.out] at HS1
      have HCL : Hid (cs.length = (cutS l k).1.length) := by show _ = _; rw [hcs.out]
      have hcl9 := HLC.out k
      have hbw : b < w1.heap.size := Nat.lt_of_lt_of_le hbl hW.out.size
      have hbn : b ≠ w1.heap.size := by omega
      have hlf := (HCI.out k hk).lt
      rw [hcs.out] at hlf hcl9
      simp only at hcl9 hlf
      have HCL : Hid (cs.length ≤ k) := hcl9
      obtain ⟨x, hx⟩ : ∃ x, el l k = x := ⟨_, rfl⟩
      obtain ⟨y, hy⟩ : ∃ y, el l f = y := ⟨_, rfl⟩
      rw [hx] at c0 c1 c2 c3 HS1
      rw [hy] at e0 e1 HS1
      have hkf : k = f → x = y := fun e => by rw [← hx, ← hy, e]
      have HKF := hidP hkf
      clear hx hy hkf
      obtain ⟨x0, x1, x2, x3⟩ := x
      obtain ⟨y0, y1, y2, y3⟩ := y
      simp only at c0 c1 c2 c3 e0 e1 HS1
      have hA := (Below.refl w1.heap.size w1).alloc (Nat.le_refl _) (.cells #[.int .i64 x0, .int .i64 x1, .int .i64 x2, .int .i64 x3] 63)
      have W1 := hidP (hW.out.trans (hA.mono hW.out.size))
      have L1 := hidP (hL.out.later hA)
      clear hA hcl9
      by_cases q0 : x0 = y0
      · by_cases q1 : x1 = y1
        · have HSS : Hid (cutS l (k + 1) = (cs, f)) := by show _ = _; rw [HS1.out, if_pos (show labA (x0, x1, x2, x3) = labA (y0, y1, y2, y3) by simp [labA, q0, q1])]
          have q0' : (x0 != y0) = false := by simp [q0]
          have q1' : (x1 != y1) = false := by simp [q1]
          clear HS1 q0 q1 HKF
          go_wp2
          go_quiet (fail)
          have W2 := hidP (Below.drewNJ W1.out nq)
          have L2 := hidP (L1.out.drewN' nq)
          go_wp2
          go_roundw
          case rel => exact ⟨k + 1, cs, f, _, by omega, rfl, rfl, by go_num, by omega, HSS, L2, W2⟩
          case measure => simp [intOf]; omega
        · have HSD : Hid (cutS l (k + 1) = (cs ++ [(f, k - f)], k)) := by show _ = _; rw [HS1.out, if_neg (show ¬ labA (x0, x1, x2, x3) = labA (y0, y1, y2, y3) by simp [labA, q1])]
          have q0' : (x0 != y0) = false := by simp [q0]
          have q1' : (x1 != y1) = true := by simp [q1]
          have hfk2 : f < k := by
            rcases Nat.lt_or_eq_of_le hfk with g | g
            · exact g
            · have h9 := HKF.out g.symm; simp only [Prod.mk.injEq] at h9; exact absurd h9.2.1 q1
          have hpie := run_pieJ (some ⟨b, off, none⟩) n cap f k hfk2 (by omega)
          clear HS1 q0 q1 HKF
          go_wp2
          go_quiet (fail)
          have W2 := hidP (Below.drewNJ W1.out nq)
          have L2 := hidP (L1.out.drewN' nq)
          obtain ⟨w3, hw3⟩ : ∃ w3, w3 = (w1.alloc (.cells #[.int .i64 x0, .int .i64 x1, .int .i64 x2, .int .i64 x3] 63)).drewN nq := ⟨_, rfl⟩
          rw [← hw3] at W2 L2 ⊢
          clear hw3
          obtain ⟨v4, w4, r4, l4, b4⟩ := L2.out.push (f, k - f) (by have := HCL.out; omega) W2.out.size
          have HR4 := hidP r4
          have L4 := hidP l4
          have W4 := hidP (W2.out.trans b4)
          obtain ⟨a4, n4, c4, hv4⟩ := slThreeJ l4.sl
          subst hv4
          clear r4 l4 b4 L2
          go_wp2_with (first | (at_builtin; refine wpListAppendRun rfl _ _ 81 rfl rfl rfl HR4.out ?_))
          go_roundw
          case rel => exact ⟨k + 1, cs ++ [(f, k - f)], k, _, by omega, rfl, rfl, by go_num, by omega, HSD, L4, W4⟩
          case measure => simp [intOf]; omega
      · have HSD : Hid (cutS l (k + 1) = (cs ++ [(f, k - f)], k)) := by show _ = _; rw [HS1.out, if_neg (show ¬ labA (x0, x1, x2, x3) = labA (y0, y1, y2, y3) by simp [labA, q0])]
        have q0' : (x0 != y0) = true := by simp [q0]
        have hfk2 : f < k := by
          rcases Nat.lt_or_eq_of_le hfk with g | g
          · exact g
          · have h9 := HKF.out g.symm; simp only [Prod.mk.injEq] at h9; exact absurd h9.1 q0
        have hpie := run_pieJ (some ⟨b, off, none⟩) n cap f k hfk2 (by omega)
        clear HS1 q0 HKF
        go_wp2
        go_quiet (fail)
        have W2 := hidP (Below.drewNJ W1.out nq)
        have L2 := hidP (L1.out.drewN' nq)
        obtain ⟨w3, hw3⟩ : ∃ w3, w3 = (w1.alloc (.cells #[.int .i64 x0, .int .i64 x1, .int .i64 x2, .int .i64 x3] 63)).drewN nq := ⟨_, rfl⟩
        rw [← hw3] at W2 L2 ⊢
        clear hw3
        obtain ⟨v4, w4, r4, l4, b4⟩ := L2.out.push (f, k - f) (by have := HCL.out; omega) W2.out.size
        have HR4 := hidP r4
        have L4 := hidP l4
        have W4 := hidP (W2.out.trans b4)
        obtain ⟨a4, n4, c4, hv4⟩ := slThreeJ l4.sl
        subst hv4
        clear r4 l4 b4 L2
        go_wp2_with (first | (at_builtin; refine wpListAppendRun rfl _ _ 81 rfl rfl rfl HR4.out ?_))
        go_roundw
        case rel => exact ⟨k + 1, cs ++ [(f, k - f)], k, _, by omega, rfl, rfl, by go_num, by omega, HSD, L4, W4⟩
        case measure => simp [intOf]; omega
    · have hk1 : ¬ (k : Int) < (n : Int) := by omega
      obtain rfl : k = n := by omega
      rw [hcs.out] at HCU
      simp only at HCU
      have hcl9 := HLC.out k
      rw [hcs.out] at hcl9
      simp only at hcl9
      by_cases hfn : f < k
      · rw [if_pos hfn] at HCU
        have hfn' : (f : Int) < (k : Int) := by omega
        have hpie := run_endJ a k cap f hfn (by omega)
        obtain ⟨v4, w4, r4, l4, b4⟩ := hL.out.push (f, k - f) (by omega) hW.out.size
        have HR4 := hidP r4
        have L4 := hidP l4
        have W4 := hidP (hW.out.trans b4)
        obtain ⟨a4, n4, c4, hv4⟩ := slThreeJ l4.sl
        subst hv4
        clear r4 l4 b4 hcl9
        go_wp2_with (first | (at_builtin; refine wpListAppendRun rfl _ _ 81 rfl rfl rfl HR4.out ?_))
        go_ret
        exact ⟨_, rfl, by rw [HCU.out]; exact L4.out, W4.out⟩
      · rw [if_neg hfn] at HCU
        have hfn' : ¬ (f : Int) < (k : Int) := by omega
        obtain ⟨a4, n4, c4, hv4⟩ := slThreeJ hL.out.sl
        subst hv4
        clear hcl9
        go_wp2
        go_ret
        exact ⟨_, rfl, by rw [HCU.out]; exact hL.out, hW.out⟩
end Go.Proofs.YtfekmlblldhieaaDoor.Wt
namespace Go.Proofs.YtfekmlblldhieaaDoor.Wt
open Go.ChangeShapes Go.WideShapes Go.ChangeAt Go.RowKit
open Go.Proofs.YtfekmlblldhieaaDoor.Pl
set_option linter.unusedVariables false
set_option linter.unusedSimpArgs false
theorem res_tog (tm : Array Value) (W : World) (R : Nat) (v x0 x1 x2 x3 : Value) (hB : Blk W R #[x0, x1, x2, x3] 63) (h2 : tm.getD 2 undef = .pointer (some ⟨R, 0, none⟩)) (h3 : tm.getD 3 undef = v) : (results Tryd.f40 tm).run Tryd.prog W = .ok (.tuple #[.agg #[x0, x1, x2, x3], v]) W := by
  have c0 := hB.cell 0 (v := x0) rfl
  have c1 := hB.cell 1 (v := x1) rfl
  have c2 := hB.cell 2 (v := x2) rfl
  have c3 := hB.cell 3 (v := x3) rfl
  simp only [Array.getD_eq_getD_getElem?] at h2 h3
  simp [results, Tryd.results40, go_sem, h2, h3, c0, c1, c2, c3]
def HeldTg (b o : Nat) (x0 x1 : Int) (w : World) : Prop := w.cell? ⟨b, o, none⟩ = some (.int .i64 x0) ∧ w.cell? ⟨b, o + 1, none⟩ = some (.int .i64 x1)
theorem Below.drewNT {B : Nat} {w w' : World} (h : Below B w w') (n : Nat) : Below B w (w'.drewN n) := ⟨h.os, h.tape, h.output, h.size, h.block⟩
theorem slThreeT {v : Value} {n : Nat} (h : ∃ a c, v = .slice a n c) : ∃ a k c, v = .slice a k c := by obtain ⟨a, c, e⟩ := h; exact ⟨a, n, c, e⟩
set_option maxRecDepth 100000 in
set_option maxHeartbeats 6400000 in
theorem together_any (a : Option Addr) (n cap : Nat) (g : List Ar) (w : World) (h : Arcs w (.slice a n cap) g) (hn : n = g.length) (hg : 0 < n) (hl : n ≤ 100000) (hwt : ∀ a ∈ g, 0 ≤ a.2.2.1 ∧ a.2.2.1 ≤ 2000000000000) (c : Int) (hc : mnL (g.map fun a => a.2.2.1) = c) (x0 x1 : Int) (hx0 : (el g 0).1 = x0) (hx1 : (el g 0).2.1 = x1) :
    Calls Tryd.prog 40 #[.slice a n cap] w fun e w' => ∃ vs, e = .returned (.tuple #[.agg #[.int .i64 x0, .int .i64 x1, .int .i64 c, .int .i64 0], vs]) ∧ OwnP w' w.heap.size vs (tgU g c n) ∧ Below w.heap.size w w' := by
  have HA := hidP h
  have HWT : Hid (∀ k, k < n → 0 ≤ (el g k).2.2.1 ∧ (el g k).2.2.1 ≤ 2000000000000) := fun k hk => hwt _ (el_mem (by omega))
  have HLS : Hid (∀ k, k < n → lsU g (k + 1) = if (el g k).2.2.1 < lsU g k then (el g k).2.2.1 else lsU g k) := fun k hk => lsU_succ (by omega) (by have := HWT.out k hk; unfold noneI; omega)
  have HLA : Hid (lsU g n = c) := by show _ = _; rw [hn, lsU_all (by omega)]; exact hc
  have HTU : Hid (∀ k, tgU g c (k + 1) = tgU g c k ++ (if k = 0 ∨ (el g k).2.2.2 ≠ (el g (k - 1)).2.2.2 then [((el g k).2.2.2, (el g k).2.2.1 - c)] else [])) := tgU_succ g c
  have HTL : Hid (∀ k, (tgU g c k).length ≤ k) := tgU_len g c
  have hw0 := HWT.out 0 hg
  have HL0 : Hid (lsU g 0 = (el g 0).2.2.1) := lsU_zero (by unfold noneI; omega)
  have HCB : Hid (-1000000000000000 ≤ c ∧ c ≤ 1000000000000000) := by
    have h1 := mnL_le (List.mem_map.2 ⟨el g 0, el_mem (by omega), rfl⟩ : (el g 0).2.2.1 ∈ g.map fun a => a.2.2.1)
    rcases mnL_mem (g.map fun a => a.2.2.1) with e | e
    · rw [e] at h1; unfold noneI at h1; omega
    · obtain ⟨a, ha, e2⟩ := List.mem_map.1 e
      have h2 := hwt a ha
      constructor <;> omega
  obtain ⟨b, off, hab, hbl, d0, d1, d2, d3⟩ := arcs_at h (j := 0) (by omega)
  subst hab
  rw [Nat.zero_mul, Nat.add_zero] at d0 d1 d2 d3
  rw [hx0] at d0
  rw [hx1] at d1
  have HAT : Hid (∀ k, k < n → w.cell? ⟨b, off + k * 4, none⟩ = some (.int .i64 (el g k).1) ∧ w.cell? ⟨b, off + k * 4 + 1, none⟩ = some (.int .i64 (el g k).2.1) ∧ w.cell? ⟨b, off + k * 4 + 2, none⟩ = some (.int .i64 (el g k).2.2.1) ∧ w.cell? ⟨b, off + k * 4 + 3, none⟩ = some (.int .i64 (el g k).2.2.2)) := fun k hk => by
    obtain ⟨b', off', hab', _, e0, e1, e2, e3⟩ := arcs_at HA.out (j := k) (by omega)
    injection hab' with hab'
    injection hab' with hb1 hb2 _
    subst hb1 hb2
    exact ⟨e0, e1, e2, e3⟩
  obtain ⟨z0, hz0⟩ : ∃ z0, (el g 0).2.2.1 = z0 := ⟨_, rfl⟩
  rw [hz0] at d2 HL0 hw0
  have HZ0 := hidP hz0
  have hA0 := (Below.refl w.heap.size w).alloc (Nat.le_refl _) (.cells #[.int .i64 0, .int .i64 0, .int .i64 0, .int .i64 0] 63)
  have W0 := hidP hA0
  have R0 := hidP (Blk.made w #[.int .i64 0, .int .i64 0, .int .i64 0, .int .i64 0] 63)
  have D0 := hidP d0
  have D1 := hidP d1
  have d2 := (hA0.cell (p := ⟨b, off + 2, none⟩) hbl).trans d2
  have n0 : (0 : Int) < (n : Int) := by omega
  have hbR : b ≠ w.heap.size := by omega
  clear hA0 h hwt hn hc hz0 hx0 hx1 d0 d1 d3 HA
  go_enter Tryd.func40, Tryd.ntmps40
  go_wp2
  clear d2
  go_loopw [4, 16] (fun s4 i wr => ∃ (k : Nat) (y : Int), k ≤ n ∧ s4 = .int .i64 y ∧ i = .int .i64 k ∧ Hid (lsU g k = y) ∧ Hid (Below w.heap.size w wr) ∧ Hid (Blk wr w.heap.size #[.int .i64 0, .int .i64 0, .int .i64 0, .int .i64 0] 63)) (fun _ i _ => n - (intOf i).toNat)
  case atStart => exact ⟨0, z0, Nat.zero_le _, rfl, rfl, HL0, W0, R0⟩
  case round =>
    clear W0 R0 HL0
    obtain ⟨k, y, hk, rfl, rfl, hy, hW, hR⟩ := hrel
    obtain ⟨w1, hw1⟩ : ∃ w1, w1 = wr := ⟨_, rfl⟩
    subst hw1
    by_cases hlt : k < n
    · have k0 : (0 : Int) ≤ (k : Int) := Int.natCast_nonneg _
      have k1 : (k : Int) < (n : Int) := by omega
      obtain ⟨c0, c1, c2, c3⟩ := HAT.out k hlt
      have c0 := (hW.out.cell (p := ⟨b, off + k * 4, none⟩) hbl).trans c0
      have c1 := (hW.out.cell (p := ⟨b, off + k * 4 + 1, none⟩) hbl).trans c1
      have c2 := (hW.out.cell (p := ⟨b, off + k * 4 + 2, none⟩) hbl).trans c2
      have c3 := (hW.out.cell (p := ⟨b, off + k * 4 + 3, none⟩) hbl).trans c3
      have HS := hidP (HLS.out k hlt)
      rw [hy.out] at HS
      obtain ⟨x, hx⟩ : ∃ x, el g k = x := ⟨_, rfl⟩
      rw [hx] at c0 c1 c2 c3 HS
      clear hx
      obtain ⟨q0, q1, q2, q3⟩ := x
      simp only at c0 c1 c2 c3 HS
      have hA := (Below.refl w1.heap.size w1).alloc (Nat.le_refl _) (.cells #[.int .i64 q0, .int .i64 q1, .int .i64 q2, .int .i64 q3] 63)
      have W1 := hidP (hW.out.trans (hA.mono hW.out.size))
      have R1 := hidP (hR.out.alloc (.cells #[.int .i64 q0, .int .i64 q1, .int .i64 q2, .int .i64 q3] 63))
      have hbw : b < w1.heap.size := Nat.lt_of_lt_of_le hbl hW.out.size
      clear hA
      by_cases e1 : q2 < y
      · rw [if_pos e1] at HS
        go_wp2
        go_roundw
        case rel => exact ⟨k + 1, q2, by omega, rfl, by go_num, HS, W1, R1⟩
        case measure => simp [intOf]; omega
      · rw [if_neg e1] at HS
        go_wp2
        go_roundw
        case rel => exact ⟨k + 1, y, by omega, rfl, by go_num, HS, W1, R1⟩
        case measure => simp [intOf]; omega
    · have hk1 : ¬ (k : Int) < (n : Int) := by omega
      obtain rfl : k = n := by omega
      obtain rfl : y = c := hy.out.symm.trans HLA.out
      clear hlt hk HLS HLA hy
      have hcb : -1000000000000000 ≤ y ∧ y ≤ 1000000000000000 := HCB.out
      have T0 := hidP (OwnP.nil w1 (w.heap.size + 1))
      go_wp2
      go_loopw [7, 27] (fun s7 i wr => ∃ (j : Nat) (vt : Value), j ≤ k ∧ vt = s7 ∧ i = .int .i64 j ∧ Hid (OwnP wr (w.heap.size + 1) vt (tgU g y j)) ∧ Hid (Below w.heap.size w wr) ∧ Hid (Blk wr w.heap.size #[.int .i64 0, .int .i64 0, .int .i64 0, .int .i64 0] 63)) (fun _ i _ => k - (intOf i).toNat)
      case atStart => exact ⟨0, _, Nat.zero_le _, rfl, rfl, T0, hW, hR⟩
      case round =>
        clear T0 hW hR
        obtain ⟨j, vt, hj, rfl, rfl, hT, hW, hR⟩ := hrel
        obtain ⟨w1, hw1⟩ : ∃ w1, w1 = wr := ⟨_, rfl⟩
        subst hw1
        by_cases hlt : j < k
        · have j0 : (0 : Int) ≤ (j : Int) := Int.natCast_nonneg _
          have j1 : (j : Int) < (k : Int) := by omega
          obtain ⟨c0, c1, c2, c3⟩ := HAT.out j hlt
          have c0 := (hW.out.cell (p := ⟨b, off + j * 4, none⟩) hbl).trans c0
          have c1 := (hW.out.cell (p := ⟨b, off + j * 4 + 1, none⟩) hbl).trans c1
          have c2 := (hW.out.cell (p := ⟨b, off + j * 4 + 2, none⟩) hbl).trans c2
          have c3 := (hW.out.cell (p := ⟨b, off + j * 4 + 3, none⟩) hbl).trans c3
          have HS := hidP (HTU.out j)
          have hwj := HWT.out j hlt
          have hTl := HTL.out j
          obtain ⟨x, hx⟩ : ∃ x, el g j = x := ⟨_, rfl⟩
          have HXJ := hidP hx
          rw [hx] at c0 c1 c2 c3 HS hwj
          clear hx
          obtain ⟨q0, q1, q2, q3⟩ := x
          simp only at c0 c1 c2 c3 HS hwj
          have hA := (Below.refl w1.heap.size w1).alloc (Nat.le_refl _) (.cells #[.int .i64 q0, .int .i64 q1, .int .i64 q2, .int .i64 q3] 63)
          have W1 := hidP (hW.out.trans (hA.mono hW.out.size))
          have R1 := hidP (hR.out.alloc (.cells #[.int .i64 q0, .int .i64 q1, .int .i64 q2, .int .i64 q3] 63))
          have T1 := hidP (hT.out.later hA)
          have hbw : b < w1.heap.size := Nat.lt_of_lt_of_le hbl hW.out.size
          have K1 := hidP (Blk.made w1 #[.int .i64 q0, .int .i64 q1, .int .i64 q2, .int .i64 q3] 63)
          have hRl := R1.out.lt
          have hRs : w.heap.size + 1 ≤ w1.heap.size := hR.out.lt
          have hwr : IntKind.i64.wrap (q2 - y) = q2 - y := wrapI (by omega) (by omega)
          clear hA hT hW hR
          obtain ⟨w2, hw2⟩ : ∃ w2, w2 = w1.alloc (.cells #[.int .i64 q0, .int .i64 q1, .int .i64 q2, .int .i64 q3] 63) := ⟨_, rfl⟩
          have HW2 := hidP hw2
          rw [← hw2] at W1 R1 T1 K1 hRl
          clear hw2
          by_cases e0 : j = 0
          · have e0' : ((j : Int) == 0) = true := by simp [e0]
            have HS2 : Hid (tgU g y (j + 1) = tgU g y j ++ [(q3, q2 - y)]) := by show _ = _; rw [HS.out, if_pos (.inl e0)]
            clear HS e0
            go_wp2
            go_quiet (fail)
            rw [← HW2.out]
            have T2 := hidP (T1.out.later ⟨rfl, rfl, rfl, Nat.le_refl _, fun _ _ => rfl⟩ : OwnP (w2.drewN nq) _ _ _)
            have W2 := hidP (Below.drewNT W1.out nq)
            have R2 := hidP (R1.out.drewN nq)
            have K2 := hidP (K1.out.drewN nq)
            have hs2 : (w2.drewN nq).heap.size = w2.heap.size := rfl
            obtain ⟨w3, hw3⟩ : ∃ w3, w3 = w2.drewN nq := ⟨_, rfl⟩
            rw [← hw3] at T2 W2 R2 K2 hs2 ⊢
            clear hw3 T1 W1 R1 K1
            have k2 := K2.out.cell 2 (v := .int .i64 q2) rfl
            have k3 := K2.out.cell 3 (v := .int .i64 q3) rfl
            obtain ⟨v4, w4, r4, o4, b4, g4⟩ := T2.out.push (q3, q2 - y) (by omega) (by omega)
            have R4 := hidP ((R2.out.alloc (.cells (encP (q3, q2 - y)).toArray 53)).grown g4 (own_ne (T2.out.later ((Below.refl _ _).alloc (Nat.le_refl _) (.cells (encP (q3, q2 - y)).toArray 53))) (R2.out.alloc (.cells (encP (q3, q2 - y)).toArray 53)) (by decide)))
            have W4 := hidP (W2.out.trans (b4.mono (by omega)))
            have T4 := hidP o4
            simp only [encP] at r4
            have HR4 := hidP r4
            obtain ⟨a4, n4, c4, hv4⟩ := slThreeT o4.sl
            subst hv4
            clear r4 o4 b4 g4 T2 R2 K2 hs2
            go_wp2_with (first | (at_builtin; refine wpListAppendRun rfl _ _ 55 rfl rfl rfl HR4.out ?_))
            go_roundw
            case rel => exact ⟨j + 1, _, by omega, rfl, by go_num, by rw [HS2.out]; exact T4, W4, R4⟩
            case measure => simp [intOf]; omega
          · have e0' : ((j : Int) == 0) = false := by simp; omega
            obtain ⟨_, _, _, p3⟩ := HAT.out (j - 1) (by omega)
            have p3 := (W1.out.cell (p := ⟨b, off + (j - 1) * 4 + 3, none⟩) hbl).trans p3
            obtain ⟨t, ht⟩ : ∃ t, (el g (j - 1)).2.2.2 = t := ⟨_, rfl⟩
            rw [ht] at p3 HS
            clear ht
            have hj1 : IntKind.i64.wrap ((j : Int) - 1) = (j : Int) - 1 := wrapI (by omega) (by omega)
            have hj2 : (0 : Int) ≤ (j : Int) - 1 := by omega
            have hj3 : (j : Int) - 1 < (k : Int) := by omega
            have hj4 : ((j : Int) - 1).toNat = j - 1 := by omega
            rw [HW2.out] at p3
            by_cases e1 : q3 = t
            · have e1' : (q3 != t) = false := by simp [e1]
              have HS2 : Hid (tgU g y (j + 1) = tgU g y j) := by show _ = _; rw [HS.out, if_neg (fun h => h.elim e0 (fun h => h e1)), List.append_nil]
              clear HS e0 e1
              go_wp2
              go_quiet (fail)
              rw [← HW2.out]
              have T2 := hidP (T1.out.later ⟨rfl, rfl, rfl, Nat.le_refl _, fun _ _ => rfl⟩ : OwnP (w2.drewN nq) _ _ _)
              have W2 := hidP (Below.drewNT W1.out nq)
              have R2 := hidP (R1.out.drewN nq)
              go_wp2
              go_roundw
              case rel => exact ⟨j + 1, _, by omega, rfl, by go_num, by rw [HS2.out]; exact T2, W2, R2⟩
              case measure => simp [intOf]; omega
            · have e1' : (q3 != t) = true := by simp [e1]
              have HS2 : Hid (tgU g y (j + 1) = tgU g y j ++ [(q3, q2 - y)]) := by show _ = _; rw [HS.out, if_pos (.inr e1)]
              clear HS e0 e1
              go_wp2
              go_quiet (fail)
              rw [← HW2.out]
              have T2 := hidP (T1.out.later ⟨rfl, rfl, rfl, Nat.le_refl _, fun _ _ => rfl⟩ : OwnP (w2.drewN nq) _ _ _)
              have W2 := hidP (Below.drewNT W1.out nq)
              have R2 := hidP (R1.out.drewN nq)
              have K2 := hidP (K1.out.drewN nq)
              have hs2 : (w2.drewN nq).heap.size = w2.heap.size := rfl
              obtain ⟨w3, hw3⟩ : ∃ w3, w3 = w2.drewN nq := ⟨_, rfl⟩
              rw [← hw3] at T2 W2 R2 K2 hs2 ⊢
              clear hw3 T1 W1 R1 K1
              have k2 := K2.out.cell 2 (v := .int .i64 q2) rfl
              have k3 := K2.out.cell 3 (v := .int .i64 q3) rfl
              obtain ⟨v4, w4, r4, o4, b4, g4⟩ := T2.out.push (q3, q2 - y) (by omega) (by omega)
              have R4 := hidP ((R2.out.alloc (.cells (encP (q3, q2 - y)).toArray 53)).grown g4 (own_ne (T2.out.later ((Below.refl _ _).alloc (Nat.le_refl _) (.cells (encP (q3, q2 - y)).toArray 53))) (R2.out.alloc (.cells (encP (q3, q2 - y)).toArray 53)) (by decide)))
              have W4 := hidP (W2.out.trans (b4.mono (by omega)))
              have T4 := hidP o4
              simp only [encP] at r4
              have HR4 := hidP r4
              obtain ⟨a4, n4, c4, hv4⟩ := slThreeT o4.sl
              subst hv4
              clear r4 o4 b4 g4 T2 R2 K2 hs2
              go_wp2_with (first | (at_builtin; refine wpListAppendRun rfl _ _ 55 rfl rfl rfl HR4.out ?_))
              go_roundw
              case rel => exact ⟨j + 1, _, by omega, rfl, by go_num, by rw [HS2.out]; exact T4, W4, R4⟩
              case measure => simp [intOf]; omega
        · have hk1 : ¬ (j : Int) < (k : Int) := by omega
          obtain rfl : j = k := by omega
          obtain ⟨at2, nt2, ct2, hvt⟩ := slThreeT hT.out.sl
          subst hvt
          have g0 := hR.out.cell 0 (v := .int .i64 0) rfl
          have g1 := hR.out.cell 1 (v := .int .i64 0) rfl
          have g2 := hR.out.cell 2 (v := .int .i64 0) rfl
          have g3 := hR.out.cell 3 (v := .int .i64 0) rfl
          have f0 := hR.out.fz 0
          have f1 := hR.out.fz 1
          have f2 := hR.out.fz 2
          have f3 := hR.out.fz 3
          have u0 := (hW.out.cell (p := ⟨b, off, none⟩) hbl).trans D0.out
          have u1 := (hW.out.cell (p := ⟨b, off + 1, none⟩) hbl).trans D1.out
          have HS0 : HeldTg b off x0 x1 w1.drew := ⟨u0, u1⟩
          obtain ⟨w5, hw5⟩ : ∃ w5, w5 = ((((w1.setCell ⟨w.heap.size, 0, none⟩ (.int .i64 x0)).setCell ⟨w.heap.size, 1, none⟩ (.int .i64 x1)).setCell ⟨w.heap.size, 2, none⟩ (.int .i64 y)).setCell ⟨w.heap.size, 3, none⟩ (.int .i64 0)).drew := ⟨_, rfl⟩
          have hB5 : Blk w5 w.heap.size #[.int .i64 x0, .int .i64 x1, .int .i64 y, .int .i64 0] 63 := by rw [hw5]; exact ((((hR.out.set 0 _).set 1 _).set 2 _).set 3 _).drew
          have hW5 : Below w.heap.size w w5 := by rw [hw5]; exact ((((hW.out.setCell (p := ⟨w.heap.size, 0, none⟩) (Nat.le_refl _) _).setCell (p := ⟨w.heap.size, 1, none⟩) (Nat.le_refl _) _).setCell (p := ⟨w.heap.size, 2, none⟩) (Nat.le_refl _) _).setCell (p := ⟨w.heap.size, 3, none⟩) (Nat.le_refl _) _).drew
          have hT5 : OwnP w5 (w.heap.size + 1) (.slice at2 nt2 ct2) (tgU g y j) := by
            rw [hw5]
            have s0 := hT.out
            have r0 := hR.out
            have s1 : OwnP _ _ _ _ := World.ownsRow.kept s0 (gSet _ w.heap.size 0 (.int .i64 x0)) (.inr (Ne.symm (own_ne s0 r0 (by decide))))
            have r1 := r0.set 0 (.int .i64 x0)
            have s2 : OwnP _ _ _ _ := World.ownsRow.kept s1 (gSet _ w.heap.size 1 (.int .i64 x1)) (.inr (Ne.symm (own_ne s1 r1 (by decide))))
            have r2 := r1.set 1 (.int .i64 x1)
            have s3 : OwnP _ _ _ _ := World.ownsRow.kept s2 (gSet _ w.heap.size 2 (.int .i64 y)) (.inr (Ne.symm (own_ne s2 r2 (by decide))))
            have r3 := r2.set 2 (.int .i64 y)
            have s4 : OwnP _ _ _ _ := World.ownsRow.kept s3 (gSet _ w.heap.size 3 (.int .i64 0)) (.inr (Ne.symm (own_ne s3 r3 (by decide))))
            exact s4.later ((Below.refl _ _).drew)
          have v0 : HeldTg b off x0 x1 w5 := ⟨(hW5.cell (p := ⟨b, off, none⟩) hbl).trans D0.out, (hW5.cell (p := ⟨b, off + 1, none⟩) hbl).trans D1.out⟩
          have HB5 := hidP hB5
          have HW5 := hidP hW5
          have HT5 := hidP hT5
          have HE5 := hidP hw5
          clear hB5 hW5 hT5 hw5
          go_wp2
          refine region_anyL (HeldTg b off x0 x1) 1000 (by kernel_rfl) ?_
          refine anyL_take (i := 0) (v := ?v0_1) at0 (by kernel_rfl) (by kernel_rfl) (by kernel_rfl) (by kernel_rfl) (fun _ _ _ h => h) rfl ?y0_1 HS0 ?r0_1
          case y0_1 => intro wx hx; obtain ⟨u0, u1⟩ := hx; go_simp; try (with_reducible rfl)
          simp only [Act.put, List.setIfInBounds_toArray, List.set_cons_zero, List.set_cons_succ]
          refine anyL_take (i := 1) (v := ?v1_2) (atS at0) (by kernel_rfl) (by kernel_rfl) (by kernel_rfl) (by kernel_rfl) (fun _ _ _ h => h) rfl ?y1_2 HS0 ?r1_2
          case y1_2 => intro wx hx; obtain ⟨u0, u1⟩ := hx; go_simp; try (with_reducible rfl)
          simp only [Act.put, List.setIfInBounds_toArray, List.set_cons_zero, List.set_cons_succ]
          refine anyL_take (i := 2) (v := ?v2_3) (atS (atS at0)) (by kernel_rfl) (by kernel_rfl) (by kernel_rfl) (by kernel_rfl) (fun _ _ _ h => h) rfl ?y2_3 HS0 ?r2_3
          case y2_3 => intro wx hx; obtain ⟨u0, u1⟩ := hx; go_simp; try (with_reducible rfl)
          simp only [Act.put, List.setIfInBounds_toArray, List.set_cons_zero, List.set_cons_succ]
          refine anyL_take (i := 3) (v := ?v3_4) (atS (atS (atS at0))) (by kernel_rfl) (by kernel_rfl) (by kernel_rfl) (by kernel_rfl) (fun _ _ _ h => h) rfl ?y3_4 HS0 ?r3_4
          case y3_4 => intro wx hx; obtain ⟨u0, u1⟩ := hx; go_simp; try (with_reducible rfl)
          simp only [Act.put, List.setIfInBounds_toArray, List.set_cons_zero, List.set_cons_succ]
          refine anyL_take (i := 4) (v := ?v4_5) (atS (atS (atS (atS at0)))) (by kernel_rfl) (by kernel_rfl) (by kernel_rfl) (by kernel_rfl) (fun _ _ _ h => h) rfl ?y4_5 HS0 ?r4_5
          case y4_5 => intro wx hx; obtain ⟨u0, u1⟩ := hx; go_simp; try (with_reducible rfl)
          simp only [Act.put, List.setIfInBounds_toArray, List.set_cons_zero, List.set_cons_succ]
          refine anyL_take (i := 5) (v := ?v5_6) (atS (atS (atS (atS (atS at0))))) (by kernel_rfl) (by kernel_rfl) (by kernel_rfl) (by kernel_rfl) (fun _ _ _ h => h) rfl ?y5_6 HS0 ?r5_6
          case y5_6 => intro wx hx; obtain ⟨u0, u1⟩ := hx; go_simp; try (with_reducible rfl)
          simp only [Act.put, List.setIfInBounds_toArray, List.set_cons_zero, List.set_cons_succ]
          refine anyL_take (i := 6) (v := ?v6_7) (atS (atS (atS (atS (atS (atS at0)))))) (by kernel_rfl) (by kernel_rfl) (by kernel_rfl) (by kernel_rfl) (fun _ _ _ h => h) rfl ?y6_7 HS0 ?r6_7
          case y6_7 => intro wx hx; obtain ⟨u0, u1⟩ := hx; go_simp; try (with_reducible rfl)
          simp only [Act.put, List.setIfInBounds_toArray, List.set_cons_zero, List.set_cons_succ]
          refine anyL_take (i := 7) (v := ?v7_8) (atS (atS (atS (atS (atS (atS (atS at0))))))) (by kernel_rfl) (by kernel_rfl) (by kernel_rfl) (by kernel_rfl) (fun _ _ _ h => h) rfl ?y7_8 HS0 ?r7_8
          case y7_8 => intro wx hx; obtain ⟨u0, u1⟩ := hx; go_simp; try (with_reducible rfl)
          simp only [Act.put, List.setIfInBounds_toArray, List.set_cons_zero, List.set_cons_succ]
          refine anyL_take (i := 8) (v := ?v8_9) (atS (atS (atS (atS (atS (atS (atS (atS at0)))))))) (by kernel_rfl) (by kernel_rfl) (by kernel_rfl) (by kernel_rfl) (fun _ _ _ h => h) rfl ?y8_9 HS0 ?r8_9
          case y8_9 => intro wx hx; obtain ⟨u0, u1⟩ := hx; go_simp; try (with_reducible rfl)
          simp only [Act.put, List.setIfInBounds_toArray, List.set_cons_zero, List.set_cons_succ]
          refine anyL_take (i := 9) (v := ?v9_10) (atS (atS (atS (atS (atS (atS (atS (atS (atS at0))))))))) (by kernel_rfl) (by kernel_rfl) (by kernel_rfl) (by kernel_rfl) (fun _ _ _ h => h) rfl ?y9_10 HS0 ?r9_10
          case y9_10 => intro wx hx; obtain ⟨u0, u1⟩ := hx; go_simp; try (with_reducible rfl)
          simp only [Act.put, List.setIfInBounds_toArray, List.set_cons_zero, List.set_cons_succ]
          refine anyL_take (i := 10) (v := ?v10_11) (atS (atS (atS (atS (atS (atS (atS (atS (atS (atS at0)))))))))) (by kernel_rfl) (by kernel_rfl) (by kernel_rfl) (by kernel_rfl) (fun _ _ _ h => h) rfl ?y10_11 HS0 ?r10_11
          case y10_11 => intro wx hx; obtain ⟨u0, u1⟩ := hx; go_simp; try (with_reducible rfl)
          simp only [Act.put, List.setIfInBounds_toArray, List.set_cons_zero, List.set_cons_succ]
          refine anyL_one (i := 11) (atS (atS (atS (atS (atS (atS (atS (atS (atS (atS (atS at0))))))))))) (by kernel_rfl) rfl (fun K hK => ?_)
          go_simp
          rw [← HE5.out]
          refine hK _ _ (.inr v0) ?_
          try simp only [Act.put, List.setIfInBounds_toArray, List.set_cons_zero, List.set_cons_succ]
          refine anyL_one (i := 12) (atS (atS (atS (atS (atS (atS (atS (atS (atS (atS (atS (atS at0)))))))))))) (by kernel_rfl) rfl (fun K hK => ?_)
          go_simp
          refine hK _ _ (.inr v0) (anyL_done (by kernel_rfl) (NoPanic.normal ?_))
          try simp only [Act.put, List.setIfInBounds_toArray, List.set_cons_zero, List.set_cons_succ]
          go_wp2
          exact bodyPost_ret (res_tog _ _ w.heap.size _ _ _ _ _ HB5.out rfl rfl) rfl ⟨_, rfl, HT5.out.mono (by omega), HW5.out⟩
end Go.Proofs.YtfekmlblldhieaaDoor.Wt
