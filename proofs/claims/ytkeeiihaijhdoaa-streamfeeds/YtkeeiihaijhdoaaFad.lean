/- Marks in memory, runs that came in. -/
import Derived.Test.YtkeeiihaijhdoaaFaa
import Derived.Test.YtkeeiihaijhdoaaFab
import Derived.Test.YtkeeiihaijhdoaaFac
import Derived.BigQuiet
import Derived.Lib.BufferMore
namespace Go.Proofs.Ytkeeiihaijhdoaa.Sm
open Go.ChangeShapes Go.WideShapes Go.ChangeAt Go.RowKit
open Go.Proofs.Ytkeeiihaijhdoaa.Pl Go.Proofs.Ytkeeiihaijhdoaa.Wt
set_option linter.unusedVariables false
set_option linter.unusedSimpArgs false
abbrev MkV := Int × Int × Value
def encM (s : MkV) : List Value := [.int .i64 s.1, .int .i64 s.2.1, s.2.2]
theorem encM_len (s : MkV) : (encM s).length = 3 := rfl
def IsMk (w : World) (x : MkV) (k : Mk) : Prop := x.1 = k.1 ∧ x.2.1 = k.2.1 ∧ Nums w x.2.2 k.2.2
theorem IsMk.later {w w' : World} {x : MkV} {k : Mk} (h : IsMk w x k) {B : Nat} (hb : Below B w w') (hB : w.heap.size ≤ B) : IsMk w' x k := ⟨h.1, h.2.1, h.2.2.later hb hB⟩
def MkIs (w : World) (v : Value) (k : Mk) : Prop := ∃ vo, v = .agg #[.int .i64 k.1, .int .i64 k.2.1, vo] ∧ Nums w vo k.2.2
theorem MkIs.later {w w' : World} {v : Value} {k : Mk} (h : MkIs w v k) {B : Nat} (hb : Below B w w') (hB : w.heap.size ≤ B) : MkIs w' v k := by
 obtain ⟨vo, h1, h2⟩ := h
 exact ⟨vo, h1, h2.later hb hB⟩
def Marks (w : World) (v : Value) (l : List Mk) : Prop := ∃ vs : List MkV, Row 3 encM w v vs ∧ vs.length = l.length ∧ ∀ j, j < l.length → IsMk w (el vs j) (el l j)
theorem Marks.later {w w' : World} {v : Value} {l : List Mk} (h : Marks w v l) {B : Nat} (hb : Below B w w') (hB : w.heap.size ≤ B) : Marks w' v l := by
 obtain ⟨vs, h1, h2, h3⟩ := h
 exact ⟨vs, Row.later h1 hb hB, h2, fun j hj => (h3 j hj).later hb hB⟩
theorem Marks.sl {w : World} {v : Value} {l : List Mk} (h : Marks w v l) : ∃ a cap, v = .slice a l.length cap := by
 obtain ⟨vs, h1, h2, h3⟩ := h
 rw [← h2]; exact Row.sl h1
theorem Marks.get {w : World} {v : Value} {l : List Mk} (h : Marks w v l) : ∃ a cap, v = .slice a l.length cap ∧ ∀ j, j < l.length → ∃ b off vo, a = some ⟨b, off, none⟩ ∧ b < w.heap.size ∧ w.cell? ⟨b, off + j * 3, none⟩ = some (.int .i64 (el l j).1) ∧ w.cell? ⟨b, off + j * 3 + 1, none⟩ = some (.int .i64 (el l j).2.1) ∧ w.cell? ⟨b, off + j * 3 + 2, none⟩ = some vo ∧ Nums w vo (el l j).2.2 := by
 by_cases hz : 0 < l.length
 ·obtain ⟨vs, h1, h2, h3⟩ := h
  obtain ⟨b, off, cap, hv, hb, hc⟩ := Row.plain h1 (fun x => by rw [encM_len]; omega) (by omega)
  refine ⟨_, cap, by rw [← h2]; exact hv, fun j hj => ?_⟩
  obtain ⟨g1, g2, g3⟩ := h3 j hj
  refine ⟨b, off, (el vs j).2.2, rfl, hb, ?_, ?_, hc j (by omega) 2 _ rfl, g3⟩
  ·rw [← g1]; exact hc j (by omega) 0 _ rfl
  ·rw [← g2]; exact hc j (by omega) 1 _ rfl
 ·obtain ⟨a, cap, hv⟩ := h.sl
  exact ⟨a, cap, hv, fun j hj => by omega⟩
def RunV (w : World) (v : Value) (r : Ru) : Prop := ∃ vs, v = .agg #[.int .i64 r.1, vs] ∧ Marks w vs r.2
theorem RunV.later {w w' : World} {v : Value} {r : Ru} (h : RunV w v r) {B : Nat} (hb : Below B w w') (hB : w.heap.size ≤ B) : RunV w' v r := by
 obtain ⟨vs, h1, h2⟩ := h
 exact ⟨vs, h1, h2.later hb hB⟩
def okU (r : Ru) : Prop := r.2.length * 40 ≤ 140737488351232 ∧ ∀ j, j < r.2.length → (el r.2 j).2.2.length * 8 ≤ 140737488351232
theorem infoMark : (Try.prog.info? 67).map (fun i => (i.zero, i.size, i.bytes)) = some (some (.agg #[.int .i64 0, .int .i64 0, .slice none 0 0]), 3, 40) := by kernel_rfl
section
variable {H : Type} {enc : TypeId × Value → H} {w : World} {base : Nat} {sp : Nat → Bool} {held : Bool}
theorem open_nums {fuel : Nat} {v : Value} {x : DataW H × List MemPlace} (h : DataW.trod enc Try.prog w base sp held fuel 35 [v] = some x) (hf : Fits Try.prog 35 x.1) :
    ∃ l : List Int, Nums w v l ∧ l.length * 8 ≤ 140737488351232 ∧ ∀ n ∈ l, (Lit.int .i64 n).wf = true := by
  rcases open_ints Try.underlying35 Try.underlying3 (by kernel_rfl) h with ⟨hcs, hx⟩ | ⟨a, len, cap, zs, hcs, _, hl, hm, hz, hx, hc, hw⟩
  · simp at hcs
    exact ⟨[], .inl ⟨hcs, rfl⟩, by simp, by simp⟩
  · simp at hcs
    subst hcs
    have hzl : len ≤ zs.length := by rw [hz]; split <;> omega
    have hlen : (zs.take len).length = len := by rw [List.length_take]; omega
    refine ⟨zs.take len, .inr ⟨a, cap, by rw [hlen], ?_⟩, ?_, fun n hn => hw n (List.mem_of_mem_take hn)⟩
    · intro j hj i u hu
      rw [hlen] at hj
      match i, hu with
      | 0, hu =>
        simp [encI1] at hu
        subst hu
        rw [Nat.mul_one, Nat.add_zero, hc j (by omega)]
        have h6 : j < zs.length := by omega
        simp [el, List.getElem?_take, hj, h6, List.getD_eq_getElem?_getD]
      | i + 1, hu => simp [encI1] at hu
    · rw [hx] at hf
      have := hf.len Try.underlying35
      have hby : Try.prog.bytesOf 3 = 8 := by kernel_rfl
      rw [hby] at this
      rw [hlen]
      simp only [lits, List.length_map, hlen, reachBytes] at this
      omega
theorem open_run {fuel : Nat} {v0 v1 : Value} {y0 y1 : DataW H × List MemPlace}
  (h0 : DataW.trod enc Try.prog w base sp held fuel 3 [v0] = some y0) (h1 : DataW.trod enc Try.prog w base sp held fuel 26 [v1] = some y1) (hf : Fits Try.prog 26 y1.1) :
  ∃ r : Ru, RunV w (.agg #[v0, v1]) r ∧ okU r ∧ (Lit.int .i64 r.1).wf = true ∧ ∀ k ∈ r.2, (Lit.int .i64 k.1).wf = true ∧ (Lit.int .i64 k.2.1).wf = true ∧ ∀ x ∈ k.2.2, (Lit.int .i64 x).wf = true := by
 obtain ⟨z, e0, _, hz⟩ := DataW.trod_int Try.underlying3 h0
 simp at e0
 subst e0
 rcases open_rows Try.underlying26 Try.underlying67 (by kernel_rfl) (by kernel_rfl) h1 with ⟨hv, hx⟩ | ⟨a, len, cap, n, V, Y, rest, hv, hm, hl, hx, hc⟩
 ·refine ⟨(z, []), ⟨v1, rfl, [], .inl ⟨hv, rfl⟩, rfl, by simp⟩, ⟨by simp, by simp⟩, hz, by simp⟩
 ·have key : ∀ i, i < len → ∃ q : Value × Mk, w.cell? (a.add (i * 3)) = some (.int .i64 q.2.1) ∧ w.cell? (a.add (i * 3 + 1)) = some (.int .i64 q.2.2.1) ∧ w.cell? (a.add (i * 3 + 2)) = some q.1 ∧ Nums w q.1 q.2.2.2 ∧ q.2.2.2.length * 8 ≤ 140737488351232 ∧ (Lit.int .i64 q.2.1).wf = true ∧ (Lit.int .i64 q.2.2.1).wf = true ∧ ∀ x ∈ q.2.2.2, (Lit.int .i64 x).wf = true := by
   intro i hi
   obtain ⟨c0, t0⟩ := hc i hi 0 _ rfl
   obtain ⟨c1, t1⟩ := hc i hi 1 _ rfl
   obtain ⟨c2, t2⟩ := hc i hi 2 _ rfl
   obtain ⟨q0, e0, _, w0⟩ := DataW.trod_int Try.underlying3 t0
   obtain ⟨q1, e1, _, w1⟩ := DataW.trod_int Try.underlying3 t1
   simp at e0 e1
   rw [e0] at c0
   rw [e1] at c1
   have hfi : Fits Try.prog 35 (Y i 2).1 := by
    rw [hx] at hf
    have hm : (.agg ((List.range 3).map fun f => (Y i f).1) : DataW H) ∈ (List.range len).map fun i => (.agg ((List.range 3).map fun f => (Y i f).1) : DataW H) := List.mem_map.2 ⟨i, List.mem_range.2 hi, rfl⟩
    exact (hf.elem Try.underlying26 hm).field Try.underlying67 (f := 2) rfl rfl
   obtain ⟨l, g1, g2, g3⟩ := open_nums t2 hfi
   exact ⟨(V i 2, q0, q1, l), c0, c1, c2, g1, g2, w0, w1, g3⟩
  obtain ⟨q, hq⟩ := Go.Deep.choose_lt key
  have hlen : ((List.range len).map fun i => (q i).2).length = len := by simp
  have hlen2 : ((List.range len).map fun i => (((q i).2.1, (q i).2.2.1, (q i).1) : MkV)).length = len := by simp
  refine ⟨(z, (List.range len).map fun i => (q i).2), ⟨v1, rfl, (List.range len).map fun i => ((q i).2.1, (q i).2.2.1, (q i).1), .inr ⟨a, cap, by rw [hlen2]; exact hv, ?_⟩, by simp, ?_⟩, ⟨?_, ?_⟩, hz, ?_⟩
  ·intro j hj i u hu
   rw [hlen2] at hj
   rw [el_range_map _ hj] at hu
   obtain ⟨g0, g1, g2, _⟩ := hq j hj
   match i, hu with
   | 0, hu => simp [encM] at hu; subst hu; exact g0
   | 1, hu => simp [encM] at hu; subst hu; exact g1
   | 2, hu => simp [encM] at hu; subst hu; exact g2
   | i + 3, hu => simp [encM] at hu
  ·intro j hj
   rw [hlen] at hj
   rw [el_range_map _ hj, el_range_map _ hj]
   exact ⟨rfl, rfl, (hq j hj).2.2.2.1⟩
  ·show ((List.range len).map fun i => (q i).2).length * 40 ≤ _
   rw [hlen]
   rw [hx] at hf
   have := hf.len Try.underlying26
   have hby : Try.prog.bytesOf 67 = 40 := by kernel_rfl
   rw [hby] at this
   simpa [reachBytes] using this
  ·intro j hj
   have hj' : j < len := by rw [← hlen]; exact hj
   show (el ((List.range len).map fun i => (q i).2) j).2.2.length * 8 ≤ _
   rw [el_range_map _ hj']
   exact (hq j hj').2.2.2.2.1
  ·intro s hs
   simp at hs
   obtain ⟨i, hi, rfl⟩ := hs
   exact (hq i hi).2.2.2.2.2
end
theorem nan_any (x : Int) (w : World) : Calls Try.prog 82 #[.int .i64 x] w fun e w' => e = .returned (.bool false) ∧ w = w' := by
 go_enter Try.func82, Try.ntmps82
 go_wp2
 go_ret
 exact ⟨by simp, rfl⟩
theorem cmp_any (x y : Int) (w : World) : Calls Try.prog 77 #[.int .i64 x, .int .i64 y] w fun e w' => ∃ c : Int, e = .returned (.int .i64 c) ∧ (c < 0 ↔ x < y) ∧ (c = 0 ↔ x = y) ∧ w = w' := by
 rcases Int.lt_trichotomy x y with h | h | h
 ·go_enter Try.func77, Try.ntmps77
  go_wp2_with (first | (go_at_call 82; (with_reducible refine (nan_any _ _).mono ?_); rintro e w1 ⟨rfl, rfl⟩))
  go_ret
  exact ⟨_, rfl, by omega, by omega, rfl⟩
 ·have h1 : ¬ x < y := by omega
  have h2 : ¬ y < x := by omega
  go_enter Try.func77, Try.ntmps77
  go_wp2_with (first | (go_at_call 82; (with_reducible refine (nan_any _ _).mono ?_); rintro e w1 ⟨rfl, rfl⟩))
  go_ret
  exact ⟨_, rfl, by omega, by omega, rfl⟩
 ·have h1 : ¬ x < y := by omega
  go_enter Try.func77, Try.ntmps77
  go_wp2_with (first | (go_at_call 82; (with_reducible refine (nan_any _ _).mono ?_); rintro e w1 ⟨rfl, rfl⟩))
  go_ret
  exact ⟨_, rfl, by omega, by omega, rfl⟩
set_option maxRecDepth 100000 in
theorem compare_any (v1 v2 : Value) (l r : List Int) (w : World) (h1 : Nums w v1 l) (h2 : Nums w v2 r) (hl : l.length = r.length) (hs : l.length ≤ 17592186044416) :
  Calls Try.prog 72 #[v1, v2] w fun e w' => ∃ c : Int, e = .returned (.int .i64 c) ∧ (c < 0 ↔ lexB l r = true) ∧ w = w' := by
 obtain ⟨a, cap, rfl, hc⟩ := h1.get
 obtain ⟨a2, cap2, rfl, hc2⟩ := h2.get
 have HC : Hid (∀ j, j < l.length → ∃ b off, a = some ⟨b, off, none⟩ ∧ b < w.heap.size ∧ w.cell? ⟨b, off + j, none⟩ = some (.int .i64 (el l j))) := hc
 have HC2 : Hid (∀ j, j < l.length → ∃ b off, a2 = some ⟨b, off, none⟩ ∧ b < w.heap.size ∧ w.cell? ⟨b, off + j, none⟩ = some (.int .i64 (el r j))) := by rw [hl]; exact hc2
 have HS : Hid (∀ k, k < l.length → lexB (l.drop k) (r.drop k) = if el l k = el r k then lexB (l.drop (k + 1)) (r.drop (k + 1)) else decide (el l k < el r k)) := fun k hk => lexB_drop hk (by omega)
 have HE : Hid (lexB (l.drop l.length) (r.drop l.length) = false) := lexB_end (Nat.le_refl _)
 have HA : Hid (lexB l r = lexB (l.drop 0) (r.drop 0)) := rfl
 rw [← hl]
 clear h1 h2 hc hc2 hl
 generalize lexB l r = g at *
 generalize l.length = n at *
 go_enter Try.func72, Try.ntmps72
 go_wp2
 go_loop [11] (fun i => ∃ k : Nat, k ≤ n ∧ i = .int .i64 k ∧ Hid (g = lexB (l.drop k) (r.drop k))) (fun i => n - (intOf i).toNat)
 case atStart => exact ⟨0, Nat.zero_le _, rfl, HA⟩
 case round =>
  obtain ⟨k, hk, rfl, hg⟩ := hrel
  by_cases hlt : k < n
  ·have hlt' : (k : Int) < (n : Int) := by omega
   have hk0 : (0 : Int) ≤ (k : Int) := by omega
   have hng : ¬ (n : Int) ≤ (k : Int) := by omega
   obtain ⟨b, off, rfl, hb, g0⟩ := HC.out k hlt
   obtain ⟨b2, off2, rfl, hb2, r0⟩ := HC2.out k hlt
   have HSk := hidP (HS.out k hlt)
   by_cases he : el l k = el r k
   ·have HN : Hid (g = lexB (l.drop (k + 1)) (r.drop (k + 1))) := by show g = _; rw [hg.out, HSk.out, if_pos he]
    clear HSk hg
    generalize el l k = x at *
    generalize el r k = y at *
    have HXY := hidP he
    clear he
    go_wp2_with (first | (go_at_call 77; (with_reducible refine (cmp_any _ _ _).mono ?_); rintro e w1 ⟨c, rfl, hc1, hc2, rfl⟩; have hc0 : c = 0 := hc2.2 HXY.out; subst hc0; clear hc1 hc2))
    go_round
    case rel => exact ⟨k + 1, by omega, by go_num, HN⟩
    case measure => simp [intOf]; omega
   ·have HN : Hid (g = decide (el l k < el r k)) := by show g = _; rw [hg.out, HSk.out, if_neg he]
    clear HSk hg
    generalize el l k = x at *
    generalize el r k = y at *
    have HXY := hidP he
    clear he
    go_wp2_with (first | (go_at_call 77; (with_reducible refine (cmp_any _ _ _).mono ?_); rintro e w1 ⟨c, rfl, hc1, hc2, rfl⟩; have hc0 : ¬ c = 0 := fun h9 => HXY.out (hc2.1 h9); have HC1 : Hid (c < 0 ↔ x < y) := hc1; clear hc1 hc2))
    go_ret
    exact ⟨_, rfl, by rw [HN.out]; simp [HC1.out], rfl⟩
  ·have hnl : ¬ (k : Int) < (n : Int) := by omega
   have hkn : k = n := by omega
   have HG : Hid (g = false) := by show g = _; rw [hg.out, hkn, HE.out]
   clear hg
   go_wp2
   go_ret
   exact ⟨_, rfl, by rw [HG.out]; simp, rfl⟩
set_option maxRecDepth 100000 in
theorem isBetter_any (va vb : Value) (ka kb : Mk) (w : World) (ha : MkIs w va ka) (hb : MkIs w vb kb) (hs : ka.2.2.length ≤ 17592186044416) :
  Calls Try.prog 62 #[va, vb] w fun e w' => e = .returned (.bool (betB ka.2 kb.2)) ∧ Below w.heap.size w w' := by
 obtain ⟨qa, xa, la⟩ := ka
 obtain ⟨qb, xb, lb⟩ := kb
 obtain ⟨voa, rfl, na⟩ := ha
 obtain ⟨vob, rfl, nb⟩ := hb
 simp only at na nb hs ⊢
 have NA : Hid (Nums w voa la) := na
 have NB : Hid (Nums w vob lb) := nb
 have HU : Hid (Below w.heap.size w ((w.alloc (.cells #[.int .i64 qa, .int .i64 xa, voa] 67)).alloc (.cells #[.int .i64 qb, .int .i64 xb, vob] 67))) := by show Below _ _ _; go_grown
 obtain ⟨aa, ca, rfl⟩ := Row.sl na
 obtain ⟨ab, cb, rfl⟩ := Row.sl nb
 clear na nb
 by_cases h1 : xa = xb
 ·by_cases h2 : la.length = lb.length
  ·have HR : Hid (betB (xa, la) (xb, lb) = lexB la lb) := by show _ = _; simp [betB, h1, h2]
   have HL := hidP h2
   subst h1
   have h2' : ¬ (la.length : Int) ≠ (lb.length : Int) := by omega
   clear h2
   have HBU := HU
   go_enter Try.func62, Try.ntmps62
   go_wp2_with (first | (go_at_call 72; (with_reducible refine (compare_any _ _ la lb _ (NA.out.later HU.out (Nat.le_refl _)) (NB.out.later HU.out (Nat.le_refl _)) HL.out hs).mono ?_); rintro e w1 ⟨c, rfl, hc1, rfl⟩; have HC1 : Hid (c < 0 ↔ lexB la lb = true) := hc1; clear hc1))
   go_ret
   exact ⟨by rw [HR.out]; congr 2; cases h9 : lexB la lb <;> simp [HC1.out, h9], HU.out⟩
  ·have HR : Hid (betB (xa, la) (xb, lb) = decide (la.length < lb.length)) := by show _ = _; simp [betB, h1, h2]
   subst h1
   have h2' : (la.length : Int) ≠ (lb.length : Int) := by omega
   clear h2
   go_enter Try.func62, Try.ntmps62
   go_wp2
   go_ret
   exact ⟨by rw [HR.out]; rfl, HU.out⟩
 ·have HR : Hid (betB (xa, la) (xb, lb) = decide (xa < xb)) := by show _ = _; simp [betB, h1]
  go_enter Try.func62, Try.ntmps62
  go_wp2
  go_ret
  exact ⟨by rw [HR.out]; rfl, HU.out⟩
def OwnN (w : World) (base : Nat) (v : Value) (l : List Int) : Prop := w.ownsRow base 3 1 v l.length (l.flatMap encI1)
theorem OwnN.nil (w : World) (base : Nat) : OwnN w base (.slice none 0 0) [] := World.ownsRow_nil _ _ _ _
theorem OwnN.nums {w : World} {base : Nat} {v : Value} {l : List Int} (h : OwnN w base v l) : Nums w v l := Row.ofOwn encI1_len h rfl
theorem OwnN.later {w w' : World} {base : Nat} {v : Value} {l : List Int} (h : OwnN w base v l) (hb : Below w.heap.size w w') : OwnN w' base v l := ownBelow h hb
theorem OwnN.mono {w : World} {base base' : Nat} {v : Value} {l : List Int} (h : OwnN w base v l) (hb : base' ≤ base) : OwnN w base' v l := ownMono h hb
theorem OwnN.set {w : World} {base : Nat} {v : Value} {l : List Int} (h : OwnN w base v l) {a : Addr} (ha : a.block < base) (u : Value) : OwnN (w.setCell a u) base v l := ownsRow_setCell_below h ha u
theorem OwnN.sl {w : World} {base : Nat} {v : Value} {l : List Int} (h : OwnN w base v l) : ∃ a c, v = .slice a l.length c := own_sl h
theorem OwnN.push {W : World} {base : Nat} {v : Value} {l : List Int} (h : OwnN W base v l) (x : Int) (hl : l.length ≤ 17592186044000) (hbase : base ≤ W.heap.size) :
  ∃ a k w', (Builtin.append_ #[35, 35] 35 #[v, .slice (some ⟨W.heap.size, 0, none⟩) 1 1]).run Try.prog (W.alloc (.cells #[.int .i64 x] 3)) = .ok (.slice a (l.length + 1) k) w' ∧ OwnN w' base (.slice a (l.length + 1) k) (l ++ [x]) ∧ Below base W w' ∧ (W.alloc (.cells #[.int .i64 x] 3)).grownBy w' v.ownBlock := by
 obtain ⟨i1, hi1, hy0, hy1, hy2⟩ := info_parts infoIntU
 have hB : Below W.heap.size W (W.alloc (.cells #[.int .i64 x] 3)) := (Below.refl _ _).alloc (Nat.le_refl _) _
 have hrow : Row 1 encI1 (W.alloc (.cells #[.int .i64 x] 3)) (.slice (some ⟨W.heap.size, 0, none⟩) 1 1) [x] := oneRow (enc := encI1) W x rfl 3
 obtain ⟨v4, w4, r4, h4, g4, _⟩ := run_append_spot (P := Try.prog) encI1_len (by decide) encI1_one 35 35 base 3 i1 _ 8 Try.underlying35 hi1 hy0 hy1 hy2 rfl _ l.length (l.flatMap encI1) (ownBelow h hB) _ [x] hrow (by simp; unfold maxLen; omega) (by simp; omega) (by simp; omega)
 obtain ⟨a, k, hv⟩ := own_sl h4
 subst hv
 refine ⟨a, k, w4, r4, by unfold OwnN; rw [List.length_append, List.flatMap_append]; exact h4, (hB.mono hbase).trans ((Below.refl _ _).grown g4 (by simp; omega) (fun k hk => (h.lt k hk).1)), g4⟩
set_option maxRecDepth 100000 in
theorem clone_any (v : Value) (l : List Int) (w : World) (h : Nums w v l) (hs : l.length ≤ 17592186044000) :
    Calls Try.prog 71 #[v] w fun e w' => ∃ v', e = .returned v' ∧ OwnN w' w.heap.size v' l ∧ Below w.heap.size w w' := by
  obtain ⟨i0, hi0, hz0, hz1, hz2⟩ := info_parts infoIntU
  obtain ⟨a, cap, rfl⟩ := Row.sl h
  cases a with
  | none =>
    have hl0 : l = [] := by
      rcases h with ⟨_, h⟩ | ⟨x, c, hv, _⟩
      · exact h
      · simp at hv
    subst hl0
    have hc : cap = 0 := by
      rcases h with ⟨h, _⟩ | ⟨x, c, hv, _⟩
      · simp at h; exact h
      · simp at hv
    subst hc
    have hnil : ∀ W, (binOp .eql 35 (.slice none 0 0) (.slice none 0 0)).run Try.prog W = .ok (.bool true) W := fun W => Lib.run_eql_slice_nil_nil W _ _ Try.underlying35
    go_enter Try.func71, Try.ntmps71
    go_wp2
    go_ret
    exact ⟨_, rfl, OwnN.nil _ _, Below.refl _ _⟩
  | some a =>
    have hB0 : Below w.heap.size w (w.alloc (.cells #[] 3)) := (Below.refl _ _).alloc (Nat.le_refl _) _
    have h0 : (w.alloc (.cells #[] 3)).ownsRow w.heap.size 3 1 (.slice (some ⟨w.heap.size, 0, none⟩) 0 0) 0 [] := World.ownsRow_made (e := 3) (size := 1) (base := w.heap.size) w #[] 0 (Nat.le_refl _) (by unfold maxLen; omega) rfl
    obtain ⟨v1, w1, r1, ho1, hg1⟩ := run_append_rows (P := Try.prog) (w := w.alloc (.cells #[] 3)) encI1_len (by decide) encI1_one 35 35 w.heap.size 3 i0 _ 8 Try.underlying35 hi0 hz0 hz1 hz2 rfl _ 0 [] h0 _ l (h.later hB0 (Nat.le_refl _)) (by unfold maxLen; omega) (by omega) (by simp)
    have HR1 := hidP r1
    have HX : Hid (OwnN w1 w.heap.size v1 l) := own_zero ho1
    have HB : Hid (Below w.heap.size w w1) := hB0.trans ((Below.refl _ _).grown hg1 (by simp) (by simp [Value.ownBlock]))
    clear r1 ho1 hg1 h h0
    have hnil : ∀ W, (binOp .eql 35 (.slice (some a) l.length cap) (.slice none 0 0)).run Try.prog W = .ok (.bool false) W := fun W => Lib.run_eql_slice_some_nil W _ _ _ Try.underlying35
    go_enter Try.func71, Try.ntmps71
    go_wp2_with (first
      | (at_builtin; refine wpListAppendRun rfl _ _ 35 rfl rfl rfl HR1.out ?_; clear HR1))
    go_ret
    exact ⟨_, rfl, HX.out, HB.out⟩
theorem copied_any (v : Value) (k : Mk) (w : World) (h : MkIs w v k) (hs : k.2.2.length ≤ 17592186044000) :
  Calls Try.prog 53 #[v] w fun e w' => ∃ vo, e = .returned (.agg #[.int .i64 k.1, .int .i64 k.2.1, vo]) ∧ OwnN w' w.heap.size vo k.2.2 ∧ Below w.heap.size w w' := by
 obtain ⟨q, x, l⟩ := k
 obtain ⟨vo, rfl, hn⟩ := h
 simp only at hn hs ⊢
 have HN : Hid (Nums w vo l) := hn
 obtain ⟨a, c, rfl⟩ := Row.sl hn
 clear hn
 have HU : Hid (Below w.heap.size w ((w.alloc (.cells #[.int .i64 q, .int .i64 x, .slice a l.length c] 67)).alloc (.cells #[.int .i64 0, .int .i64 0, .slice none 0 0] 67))) := by show Below _ _ _; go_grown
 go_enter Try.func53, Try.ntmps53
 go_wp2_with (first
  | (go_at_call 71; (with_reducible refine (clone_any _ l _ (HN.out.later HU.out (Nat.le_refl _)) hs).mono ?_); rintro e w1 ⟨v1, rfl, ho, hb⟩; have HO : Hid (OwnN w1 (w.heap.size + 2) v1 l) := (by show OwnN _ _ _ _; simpa using ho); obtain ⟨a1, c1, rfl⟩ := ho.sl; obtain ⟨s1, b1, b2, hb1⟩ := boxedTwo hb (by simp); have HB1 : Hid (Below w.heap.size w w1) := hb1; have e0 := b1.cell 0 (v := .int .i64 q) rfl; have e1 := b1.cell 1 (v := .int .i64 x) rfl; have e2 := b1.cell 2 (v := .slice a l.length c) rfl; have f2 := b1.fz 2; have d0 := b2.cell 0 (v := .int .i64 0) rfl; have d1 := b2.cell 1 (v := .int .i64 0) rfl; have d2 := b2.cell 2 (v := .slice none 0 0) rfl; have g0 := b2.fz 0; have g1 := b2.fz 1; have g2 := b2.fz 2; clear b1 b2 hb1 hb ho))
 exact bodyPost_ret (v := .agg #[.int .i64 q, .int .i64 x, .slice a1 l.length c1]) (by simp [results, Try.results53, go_sem, *]) rfl ⟨_, rfl, OwnN.mono ((((HO.out.set (by show w.heap.size < _; omega) _).set (by show w.heap.size + 1 < _; omega) _).set (by show w.heap.size + 1 < _; omega) _).set (by show w.heap.size + 1 < _; omega) _) (by omega), by have h9 := HB1.out; go_grown⟩
set_option maxRecDepth 100000 in
set_option maxHeartbeats 1600000 in
theorem better_any (va vb : Value) (ka kb : Mk) (w : World) (ha : MkIs w va ka) (hb : MkIs w vb kb) (hs : ka.2.2.length ≤ 17592186044000) :
  Calls Try.prog 61 #[va, vb] w fun e w' => e = .returned (.bool (betB ka.2 kb.2)) ∧ Below w.heap.size w w' := by
 obtain ⟨qa, xa, la⟩ := ka
 obtain ⟨qb, xb, lb⟩ := kb
 obtain ⟨voa, rfl, na⟩ := ha
 obtain ⟨vob, rfl, nb⟩ := hb
 simp only at na nb hs ⊢
 obtain ⟨aa, ca, rfl, hca⟩ := na.get
 obtain ⟨ab, cb, rfl, hcb⟩ := nb.get
 have HU : Hid (Below w.heap.size w ((w.alloc (.cells #[.int .i64 qa, .int .i64 xa, .slice aa la.length ca] 67)).alloc (.cells #[.int .i64 qb, .int .i64 xb, .slice ab lb.length cb] 67))) := by show Below _ _ _; go_grown
 by_cases h1 : xa = xb
 ·by_cases h2 : la.length = lb.length
  ·have HR : Hid (betB (xa, la) (xb, lb) = lexB la lb) := by show _ = _; simp [betB, h1, h2]
   subst h1
   have HA : Hid (∀ j, j < la.length → ∃ b off, aa = some ⟨b, off, none⟩ ∧ b < w.heap.size ∧ w.cell? ⟨b, off + j, none⟩ = some (.int .i64 (el la j))) := hca
   have HB : Hid (∀ j, j < la.length → ∃ b off, ab = some ⟨b, off, none⟩ ∧ b < w.heap.size ∧ w.cell? ⟨b, off + j, none⟩ = some (.int .i64 (el lb j))) := by rw [h2]; exact hcb
   have HS : Hid (∀ k, k < la.length → lexB (la.drop k) (lb.drop k) = if el la k = el lb k then lexB (la.drop (k + 1)) (lb.drop (k + 1)) else decide (el la k < el lb k)) := fun k hk => lexB_drop hk (by omega)
   have HE : Hid (lexB (la.drop la.length) (lb.drop la.length) = false) := lexB_end (Nat.le_refl _)
   have HG : Hid (betB (xa, la) (xa, lb) = lexB (la.drop 0) (lb.drop 0)) := HR.out
   rw [← h2] at HU ⊢
   clear na nb hca hcb h2 HR
   generalize betB (xa, la) (xa, lb) = g at *
   generalize la.length = n at *
   go_enter Try.func61, Try.ntmps61
   go_wp2
   go_loopw [5] (fun i wr => ∃ k q : Nat, k ≤ n ∧ i = .int .i64 k ∧ Hid (g = lexB (la.drop k) (lb.drop k)) ∧ wr = ((w.alloc (.cells #[.int .i64 qa, .int .i64 xa, .slice aa n ca] 67)).alloc (.cells #[.int .i64 qb, .int .i64 xa, .slice ab n cb] 67)).drewN q) (fun i _ => n - (intOf i).toNat)
   case atStart => exact ⟨0, 0, Nat.zero_le _, rfl, HG, (World.drewN_zero _).symm⟩
   case round =>
    clear HG
    obtain ⟨k, q, hk, rfl, hg, hw⟩ := hrel
    have HW : Hid (wr = ((w.alloc (.cells #[.int .i64 qa, .int .i64 xa, .slice aa n ca] 67)).alloc (.cells #[.int .i64 qb, .int .i64 xa, .slice ab n cb] 67)).drewN q) := hw
    have hb : Below w.heap.size w wr := by rw [hw]; exact below_drewN (by go_grown) q
    have c0 : wr.cell? ⟨w.heap.size, 2, none⟩ = some (.slice aa n ca) := by rw [hw]; go_cell
    have c1 : wr.cell? ⟨w.heap.size + 1, 2, none⟩ = some (.slice ab n cb) := by rw [hw]; go_cell
    clear hw
    by_cases hlt : k < n
    ·have hk0 : (0 : Int) ≤ (k : Int) := by omega
     have hk1 : (k : Int) < (n : Int) := by omega
     obtain ⟨b, off, rfl, hbl, g0⟩ := HA.out k hlt
     obtain ⟨b2, off2, rfl, hbl2, r0⟩ := HB.out k hlt
     have g0 := (hb.cell (p := ⟨b, off + k, none⟩) hbl).trans g0
     have r0 := (hb.cell (p := ⟨b2, off2 + k, none⟩) hbl2).trans r0
     have HSk := hidP (HS.out k hlt)
     clear hbl hbl2
     have HBW := hidP hb
     clear hb
     by_cases he : el la k = el lb k
     ·have HN : Hid (g = lexB (la.drop (k + 1)) (lb.drop (k + 1))) := by show g = _; rw [hg.out, HSk.out, if_pos he]
      clear HSk hg
      generalize el la k = x at *
      generalize el lb k = y at *
      subst he
      go_wp2
      go_quiet (fail)
      go_wp2
      go_roundw
      case rel => exact ⟨k + 1, q + nq, by omega, by go_num, HN, by rw [HW.out, World.drewN_drewN]⟩
      case measure => simp [intOf]; omega
     ·have HN : Hid (g = decide (el la k < el lb k)) := by show g = _; rw [hg.out, HSk.out, if_neg he]
      clear HSk hg
      generalize el la k = x at *
      generalize el lb k = y at *
      go_wp2
      go_quiet (fail)
      go_wp2
      go_quiet (fail)
      go_wp2
      go_ret
      exact ⟨by rw [HN.out]; rfl, by first | exact below_drewN (below_drewN HBW.out _) _ | (rw [World.drewN_drewN]; exact below_drewN HBW.out _) | exact HBW.out⟩
    ·have hnl : ¬ (k : Int) < (n : Int) := by omega
     have hkn : k = n := by omega
     have HG : Hid (g = false) := by show g = _; rw [hg.out, hkn, HE.out]
     clear hg
     go_wp2
     go_ret
     exact ⟨by rw [HG.out]; rfl, hb⟩
  ·have HR : Hid (betB (xa, la) (xb, lb) = decide (la.length < lb.length)) := by show _ = _; simp [betB, h1, h2]
   subst h1
   have h2' : (la.length : Int) ≠ (lb.length : Int) := by omega
   clear h2
   go_enter Try.func61, Try.ntmps61
   go_wp2
   go_ret
   exact ⟨by rw [HR.out]; rfl, HU.out⟩
 ·have HR : Hid (betB (xa, la) (xb, lb) = decide (xa < xb)) := by show _ = _; simp [betB, h1]
  go_enter Try.func61, Try.ntmps61
  go_wp2
  go_ret
  exact ⟨by rw [HR.out]; rfl, HU.out⟩
end Go.Proofs.Ytkeeiihaijhdoaa.Sm
