/- Marks in memory, runs that came in. -/
import Derived.Test.YtkeeiihaijhdoaaDaa
import Derived.Test.YtkeeiihaijhdoaaDab
import Derived.BigQuiet
import Derived.Lib.BufferMore
import Derived.Shelf.Abstract
namespace Go.Proofs.Ytkeeiihaijhdoaa.Sm
open Go.ChangeShapes Go.WideShapes Go.ChangeAt Go.RowKit
open Go.Proofs.Ytkeeiihaijhdoaa.Pl Go.Proofs.Ytkeeiihaijhdoaa.Wt
set_option linter.unusedVariables false
set_option linter.unusedSimpArgs false
abbrev MkV := Int × Int × Value
def encM (s : MkV) : List Value := [.int .i64 s.1, .int .i64 s.2.1, s.2.2]
theorem encM_len (s : MkV) : (encM s).length = 3 := rfl
def IsMk (w : World) (x : MkV) (k : Mk) : Prop := x.1 = k.1 ∧ x.2.1 = k.2.1 ∧ Nums w x.2.2 k.2.2
theorem IsMk.later {w w' : World} {x : MkV} {k : Mk} (h : IsMk w x k) {B : Nat} (hb : Below B w w') (hB : w.heap.size ≤ B) : IsMk w' x k := ⟨h.1, h.2.1, h.2.2.later hb hB⟩
def MkIs (w : World) (v : Value) (k : Mk) : Prop := ∃ vo, v = .agg #[.int .i64 k.1, .int .i64 k.2.1, vo] ∧ Nums w vo k.2.2
theorem MkIs.later {w w' : World} {v : Value} {k : Mk} (h : MkIs w v k) {B : Nat} (hb : Below B w w') (hB : w.heap.size ≤ B) : MkIs w' v k := by
 obtain ⟨vo, h1, h2⟩ := h
 exact ⟨vo, h1, h2.later hb hB⟩
def Marks (w : World) (v : Value) (l : List Mk) : Prop := ∃ vs : List MkV, Row 3 encM w v vs ∧ vs.length = l.length ∧ ∀ j, j < l.length → IsMk w (el vs j) (el l j)
theorem Marks.later {w w' : World} {v : Value} {l : List Mk} (h : Marks w v l) {B : Nat} (hb : Below B w w') (hB : w.heap.size ≤ B) : Marks w' v l := by
 obtain ⟨vs, h1, h2, h3⟩ := h
 exact ⟨vs, Row.later h1 hb hB, h2, fun j hj => (h3 j hj).later hb hB⟩
theorem Marks.sl {w : World} {v : Value} {l : List Mk} (h : Marks w v l) : ∃ a cap, v = .slice a l.length cap := by
 obtain ⟨vs, h1, h2, h3⟩ := h
 rw [← h2]; exact Row.sl h1
theorem Marks.get {w : World} {v : Value} {l : List Mk} (h : Marks w v l) : ∃ a cap, v = .slice a l.length cap ∧ ∀ j, j < l.length → ∃ b off vo, a = some ⟨b, off, none⟩ ∧ b < w.heap.size ∧ w.cell? ⟨b, off + j * 3, none⟩ = some (.int .i64 (el l j).1) ∧ w.cell? ⟨b, off + j * 3 + 1, none⟩ = some (.int .i64 (el l j).2.1) ∧ w.cell? ⟨b, off + j * 3 + 2, none⟩ = some vo ∧ Nums w vo (el l j).2.2 := by
 by_cases hz : 0 < l.length
 ·obtain ⟨vs, h1, h2, h3⟩ := h
  obtain ⟨b, off, cap, hv, hb, hc⟩ := Row.plain h1 (fun x => by rw [encM_len]; omega) (by omega)
  refine ⟨_, cap, by rw [← h2]; exact hv, fun j hj => ?_⟩
  obtain ⟨g1, g2, g3⟩ := h3 j hj
  refine ⟨b, off, (el vs j).2.2, rfl, hb, ?_, ?_, hc j (by omega) 2 _ rfl, g3⟩
  ·rw [← g1]; exact hc j (by omega) 0 _ rfl
  ·rw [← g2]; exact hc j (by omega) 1 _ rfl
 ·obtain ⟨a, cap, hv⟩ := h.sl
  exact ⟨a, cap, hv, fun j hj => by omega⟩
def RunV (w : World) (v : Value) (r : Ru) : Prop := ∃ vs, v = .agg #[.int .i64 r.1, vs] ∧ Marks w vs r.2
theorem RunV.later {w w' : World} {v : Value} {r : Ru} (h : RunV w v r) {B : Nat} (hb : Below B w w') (hB : w.heap.size ≤ B) : RunV w' v r := by
 obtain ⟨vs, h1, h2⟩ := h
 exact ⟨vs, h1, h2.later hb hB⟩
def okU (r : Ru) : Prop := r.2.length * 40 ≤ 140737488351232 ∧ ∀ j, j < r.2.length → (el r.2 j).2.2.length * 8 ≤ 140737488351232
theorem infoMark : (Try.prog.info? 67).map (fun i => (i.zero, i.size, i.bytes)) = some (some (.agg #[.int .i64 0, .int .i64 0, .slice none 0 0]), 3, 40) := by kernel_rfl
section
variable {H : Type} {enc : TypeId × Value → H} {w : World} {base : Nat} {sp : Nat → Bool} {held : Bool}
end
theorem nan_any (x : Int) (w : World) : Calls Try.prog 82 #[.int .i64 x] w fun e w' => e = .returned (.bool false) ∧ w = w' := by
 go_enter Try.func82, Try.ntmps82
 go_wp2
 go_ret
 exact ⟨by simp, rfl⟩
theorem cmp_any (x y : Int) (w : World) : Calls Try.prog 77 #[.int .i64 x, .int .i64 y] w fun e w' => ∃ c : Int, e = .returned (.int .i64 c) ∧ (c < 0 ↔ x < y) ∧ (c = 0 ↔ x = y) ∧ w = w' := by
 rcases Int.lt_trichotomy x y with h | h | h
 ·go_enter Try.func77, Try.ntmps77
  go_wp2_with (first | (go_at_call 82; (with_reducible refine (nan_any _ _).mono ?_); rintro e w1 ⟨rfl, rfl⟩))
  go_ret
  exact ⟨_, rfl, by omega, by omega, rfl⟩
 ·have h1 : ¬ x < y := by omega
  have h2 : ¬ y < x := by omega
  go_enter Try.func77, Try.ntmps77
  go_wp2_with (first | (go_at_call 82; (with_reducible refine (nan_any _ _).mono ?_); rintro e w1 ⟨rfl, rfl⟩))
  go_ret
  exact ⟨_, rfl, by omega, by omega, rfl⟩
 ·have h1 : ¬ x < y := by omega
  go_enter Try.func77, Try.ntmps77
  go_wp2_with (first | (go_at_call 82; (with_reducible refine (nan_any _ _).mono ?_); rintro e w1 ⟨rfl, rfl⟩))
  go_ret
  exact ⟨_, rfl, by omega, by omega, rfl⟩
set_option maxRecDepth 100000 in
theorem compare_any (v1 v2 : Value) (l r : List Int) (w : World) (h1 : Nums w v1 l) (h2 : Nums w v2 r) (hl : l.length = r.length) (hs : l.length ≤ 17592186044416) :
  Calls Try.prog 72 #[v1, v2] w fun e w' => ∃ c : Int, e = .returned (.int .i64 c) ∧ (c < 0 ↔ lexB l r = true) ∧ w = w' := by
 obtain ⟨a, cap, rfl, hc⟩ := h1.get
 obtain ⟨a2, cap2, rfl, hc2⟩ := h2.get
 have HC : Hid (∀ j, j < l.length → ∃ b off, a = some ⟨b, off, none⟩ ∧ b < w.heap.size ∧ w.cell? ⟨b, off + j, none⟩ = some (.int .i64 (el l j))) := hc
 have HC2 : Hid (∀ j, j < l.length → ∃ b off, a2 = some ⟨b, off, none⟩ ∧ b < w.heap.size ∧ w.cell? ⟨b, off + j, none⟩ = some (.int .i64 (el r j))) := by rw [hl]; exact hc2
 have HS : Hid (∀ k, k < l.length → lexB (l.drop k) (r.drop k) = if el l k = el r k then lexB (l.drop (k + 1)) (r.drop (k + 1)) else decide (el l k < el r k)) := fun k hk => lexB_drop hk (by omega)
 have HE : Hid (lexB (l.drop l.length) (r.drop l.length) = false) := lexB_end (Nat.le_refl _)
 have HA : Hid (lexB l r = lexB (l.drop 0) (r.drop 0)) := rfl
 rw [← hl]
 clear h1 h2 hc hc2 hl
 generalize lexB l r = g at *
 generalize l.length = n at *
 go_enter Try.func72, Try.ntmps72
 go_wp2
 go_loop [11] (fun i => ∃ k : Nat, k ≤ n ∧ i = .int .i64 k ∧ Hid (g = lexB (l.drop k) (r.drop k))) (fun i => n - (intOf i).toNat)
 case atStart => exact ⟨0, Nat.zero_le _, rfl, HA⟩
 case round =>
  obtain ⟨k, hk, rfl, hg⟩ := hrel
  by_cases hlt : k < n
  ·have hlt' : (k : Int) < (n : Int) := by omega
   have hk0 : (0 : Int) ≤ (k : Int) := by omega
   have hng : ¬ (n : Int) ≤ (k : Int) := by omega
   obtain ⟨b, off, rfl, hb, g0⟩ := HC.out k hlt
   obtain ⟨b2, off2, rfl, hb2, r0⟩ := HC2.out k hlt
   have HSk := hidP (HS.out k hlt)
   by_cases he : el l k = el r k
   ·have HN : Hid (g = lexB (l.drop (k + 1)) (r.drop (k + 1))) := by show g = _; rw [hg.out, HSk.out, if_pos he]
    clear HSk hg
    generalize el l k = x at *
    generalize el r k = y at *
    have HXY := hidP he
    clear he
    go_wp2_with (first | (go_at_call 77; (with_reducible refine (cmp_any _ _ _).mono ?_); rintro e w1 ⟨c, rfl, hc1, hc2, rfl⟩; have hc0 : c = 0 := hc2.2 HXY.out; subst hc0; clear hc1 hc2))
    go_round
    case rel => exact ⟨k + 1, by omega, by go_num, HN⟩
    case measure => simp [intOf]; omega
   ·have HN : Hid (g = decide (el l k < el r k)) := by show g = _; rw [hg.out, HSk.out, if_neg he]
    clear HSk hg
    generalize el l k = x at *
    generalize el r k = y at *
    have HXY := hidP he
    clear he
    go_wp2_with (first | (go_at_call 77; (with_reducible refine (cmp_any _ _ _).mono ?_); rintro e w1 ⟨c, rfl, hc1, hc2, rfl⟩; have hc0 : ¬ c = 0 := fun h9 => HXY.out (hc2.1 h9); have HC1 : Hid (c < 0 ↔ x < y) := hc1; clear hc1 hc2))
    go_ret
    exact ⟨_, rfl, by rw [HN.out]; simp [HC1.out], rfl⟩
  ·have hnl : ¬ (k : Int) < (n : Int) := by omega
   have hkn : k = n := by omega
   have HG : Hid (g = false) := by show g = _; rw [hg.out, hkn, HE.out]
   clear hg
   go_wp2
   go_ret
   exact ⟨_, rfl, by rw [HG.out]; simp, rfl⟩
set_option maxRecDepth 100000 in
theorem isBetter_any (va vb : Value) (ka kb : Mk) (w : World) (ha : MkIs w va ka) (hb : MkIs w vb kb) (hs : ka.2.2.length ≤ 17592186044416) :
  Calls Try.prog 62 #[va, vb] w fun e w' => e = .returned (.bool (betB ka.2 kb.2)) ∧ Below w.heap.size w w' := by
 obtain ⟨qa, xa, la⟩ := ka
 obtain ⟨qb, xb, lb⟩ := kb
 obtain ⟨voa, rfl, na⟩ := ha
 obtain ⟨vob, rfl, nb⟩ := hb
 simp only at na nb hs ⊢
 have NA : Hid (Nums w voa la) := na
 have NB : Hid (Nums w vob lb) := nb
 have HU : Hid (Below w.heap.size w ((w.alloc (.cells #[.int .i64 qa, .int .i64 xa, voa] 67)).alloc (.cells #[.int .i64 qb, .int .i64 xb, vob] 67))) := by show Below _ _ _; go_grown
 obtain ⟨aa, ca, rfl⟩ := Row.sl na
 obtain ⟨ab, cb, rfl⟩ := Row.sl nb
 clear na nb
 by_cases h1 : xa = xb
 ·by_cases h2 : la.length = lb.length
  ·have HR : Hid (betB (xa, la) (xb, lb) = lexB la lb) := by show _ = _; simp [betB, h1, h2]
   have HL := hidP h2
   subst h1
   have h2' : ¬ (la.length : Int) ≠ (lb.length : Int) := by omega
   clear h2
   have HBU := HU
   go_enter Try.func62, Try.ntmps62
   go_wp2_with (first | (go_at_call 72; (with_reducible refine (compare_any _ _ la lb _ (NA.out.later HU.out (Nat.le_refl _)) (NB.out.later HU.out (Nat.le_refl _)) HL.out hs).mono ?_); rintro e w1 ⟨c, rfl, hc1, rfl⟩; have HC1 : Hid (c < 0 ↔ lexB la lb = true) := hc1; clear hc1))
   go_ret
   exact ⟨by rw [HR.out]; congr 2; cases h9 : lexB la lb <;> simp [HC1.out, h9], HU.out⟩
  ·have HR : Hid (betB (xa, la) (xb, lb) = decide (la.length < lb.length)) := by show _ = _; simp [betB, h1, h2]
   subst h1
   have h2' : (la.length : Int) ≠ (lb.length : Int) := by omega
   clear h2
   go_enter Try.func62, Try.ntmps62
   go_wp2
   go_ret
   exact ⟨by rw [HR.out]; rfl, HU.out⟩
 ·have HR : Hid (betB (xa, la) (xb, lb) = decide (xa < xb)) := by show _ = _; simp [betB, h1]
  go_enter Try.func62, Try.ntmps62
  go_wp2
  go_ret
  exact ⟨by rw [HR.out]; rfl, HU.out⟩
def OwnN (w : World) (base : Nat) (v : Value) (l : List Int) : Prop := w.ownsRow base 3 1 v l.length (l.flatMap encI1)
theorem OwnN.nil (w : World) (base : Nat) : OwnN w base (.slice none 0 0) [] := World.ownsRow_nil _ _ _ _
theorem OwnN.nums {w : World} {base : Nat} {v : Value} {l : List Int} (h : OwnN w base v l) : Nums w v l := Row.ofOwn encI1_len h rfl
theorem OwnN.later {w w' : World} {base : Nat} {v : Value} {l : List Int} (h : OwnN w base v l) (hb : Below w.heap.size w w') : OwnN w' base v l := ownBelow h hb
theorem OwnN.mono {w : World} {base base' : Nat} {v : Value} {l : List Int} (h : OwnN w base v l) (hb : base' ≤ base) : OwnN w base' v l := ownMono h hb
theorem OwnN.set {w : World} {base : Nat} {v : Value} {l : List Int} (h : OwnN w base v l) {a : Addr} (ha : a.block < base) (u : Value) : OwnN (w.setCell a u) base v l := ownsRow_setCell_below h ha u
theorem OwnN.sl {w : World} {base : Nat} {v : Value} {l : List Int} (h : OwnN w base v l) : ∃ a c, v = .slice a l.length c := own_sl h
theorem OwnN.push {W : World} {base : Nat} {v : Value} {l : List Int} (h : OwnN W base v l) (x : Int) (hl : l.length ≤ 17592186044000) (hbase : base ≤ W.heap.size) :
  ∃ a k w', (Builtin.append_ #[35, 35] 35 #[v, .slice (some ⟨W.heap.size, 0, none⟩) 1 1]).run Try.prog (W.alloc (.cells #[.int .i64 x] 3)) = .ok (.slice a (l.length + 1) k) w' ∧ OwnN w' base (.slice a (l.length + 1) k) (l ++ [x]) ∧ Below base W w' ∧ (W.alloc (.cells #[.int .i64 x] 3)).grownBy w' v.ownBlock := by
 obtain ⟨i1, hi1, hy0, hy1, hy2⟩ := info_parts infoIntU
 have hB : Below W.heap.size W (W.alloc (.cells #[.int .i64 x] 3)) := (Below.refl _ _).alloc (Nat.le_refl _) _
 have hrow : Row 1 encI1 (W.alloc (.cells #[.int .i64 x] 3)) (.slice (some ⟨W.heap.size, 0, none⟩) 1 1) [x] := oneRow (enc := encI1) W x rfl 3
 obtain ⟨v4, w4, r4, h4, g4, _⟩ := run_append_spot (P := Try.prog) encI1_len (by decide) encI1_one 35 35 base 3 i1 _ 8 Try.underlying35 hi1 hy0 hy1 hy2 rfl _ l.length (l.flatMap encI1) (ownBelow h hB) _ [x] hrow (by simp; unfold maxLen; omega) (by simp; omega) (by simp; omega)
 obtain ⟨a, k, hv⟩ := own_sl h4
 subst hv
 refine ⟨a, k, w4, r4, by unfold OwnN; rw [List.length_append, List.flatMap_append]; exact h4, (hB.mono hbase).trans ((Below.refl _ _).grown g4 (by simp; omega) (fun k hk => (h.lt k hk).1)), g4⟩
set_option maxRecDepth 100000 in
theorem clone_any (v : Value) (l : List Int) (w : World) (h : Nums w v l) (hs : l.length ≤ 17592186044000) :
    Calls Try.prog 71 #[v] w fun e w' => ∃ v', e = .returned v' ∧ OwnN w' w.heap.size v' l ∧ Below w.heap.size w w' := by
  obtain ⟨i0, hi0, hz0, hz1, hz2⟩ := info_parts infoIntU
  obtain ⟨a, cap, rfl⟩ := Row.sl h
  cases a with
  | none =>
    have hl0 : l = [] := by
      rcases h with ⟨_, h⟩ | ⟨x, c, hv, _⟩
      · exact h
      · simp at hv
    subst hl0
    have hc : cap = 0 := by
      rcases h with ⟨h, _⟩ | ⟨x, c, hv, _⟩
      · simp at h; exact h
      · simp at hv
    subst hc
    have hnil : ∀ W, (binOp .eql 35 (.slice none 0 0) (.slice none 0 0)).run Try.prog W = .ok (.bool true) W := fun W => Lib.run_eql_slice_nil_nil W _ _ Try.underlying35
    go_enter Try.func71, Try.ntmps71
    go_wp2
    go_ret
    exact ⟨_, rfl, OwnN.nil _ _, Below.refl _ _⟩
  | some a =>
    have hB0 : Below w.heap.size w (w.alloc (.cells #[] 3)) := (Below.refl _ _).alloc (Nat.le_refl _) _
    have h0 : (w.alloc (.cells #[] 3)).ownsRow w.heap.size 3 1 (.slice (some ⟨w.heap.size, 0, none⟩) 0 0) 0 [] := World.ownsRow_made (e := 3) (size := 1) (base := w.heap.size) w #[] 0 (Nat.le_refl _) (by unfold maxLen; omega) rfl
    obtain ⟨v1, w1, r1, ho1, hg1⟩ := run_append_rows (P := Try.prog) (w := w.alloc (.cells #[] 3)) encI1_len (by decide) encI1_one 35 35 w.heap.size 3 i0 _ 8 Try.underlying35 hi0 hz0 hz1 hz2 rfl _ 0 [] h0 _ l (h.later hB0 (Nat.le_refl _)) (by unfold maxLen; omega) (by omega) (by simp)
    have HR1 := hidP r1
    have HX : Hid (OwnN w1 w.heap.size v1 l) := own_zero ho1
    have HB : Hid (Below w.heap.size w w1) := hB0.trans ((Below.refl _ _).grown hg1 (by simp) (by simp [Value.ownBlock]))
    clear r1 ho1 hg1 h h0
    have hnil : ∀ W, (binOp .eql 35 (.slice (some a) l.length cap) (.slice none 0 0)).run Try.prog W = .ok (.bool false) W := fun W => Lib.run_eql_slice_some_nil W _ _ _ Try.underlying35
    go_enter Try.func71, Try.ntmps71
    go_wp2_with (first
      | (at_builtin; refine wpListAppendRun rfl _ _ 35 rfl rfl rfl HR1.out ?_; clear HR1))
    go_ret
    exact ⟨_, rfl, HX.out, HB.out⟩
theorem copied_any (v : Value) (k : Mk) (w : World) (h : MkIs w v k) (hs : k.2.2.length ≤ 17592186044000) :
  Calls Try.prog 53 #[v] w fun e w' => ∃ vo, e = .returned (.agg #[.int .i64 k.1, .int .i64 k.2.1, vo]) ∧ OwnN w' w.heap.size vo k.2.2 ∧ Below w.heap.size w w' := by
 obtain ⟨q, x, l⟩ := k
 obtain ⟨vo, rfl, hn⟩ := h
 simp only at hn hs ⊢
 have HN : Hid (Nums w vo l) := hn
 obtain ⟨a, c, rfl⟩ := Row.sl hn
 clear hn
 have HU : Hid (Below w.heap.size w ((w.alloc (.cells #[.int .i64 q, .int .i64 x, .slice a l.length c] 67)).alloc (.cells #[.int .i64 0, .int .i64 0, .slice none 0 0] 67))) := by show Below _ _ _; go_grown
 go_enter Try.func53, Try.ntmps53
 go_wp2_with (first
  | (go_at_call 71; (with_reducible refine (clone_any _ l _ (HN.out.later HU.out (Nat.le_refl _)) hs).mono ?_); rintro e w1 ⟨v1, rfl, ho, hb⟩; have HO : Hid (OwnN w1 (w.heap.size + 2) v1 l) := (by show OwnN _ _ _ _; simpa using ho); obtain ⟨a1, c1, rfl⟩ := ho.sl; obtain ⟨s1, b1, b2, hb1⟩ := boxedTwo hb (by simp); have HB1 : Hid (Below w.heap.size w w1) := hb1; have e0 := b1.cell 0 (v := .int .i64 q) rfl; have e1 := b1.cell 1 (v := .int .i64 x) rfl; have e2 := b1.cell 2 (v := .slice a l.length c) rfl; have f2 := b1.fz 2; have d0 := b2.cell 0 (v := .int .i64 0) rfl; have d1 := b2.cell 1 (v := .int .i64 0) rfl; have d2 := b2.cell 2 (v := .slice none 0 0) rfl; have g0 := b2.fz 0; have g1 := b2.fz 1; have g2 := b2.fz 2; clear b1 b2 hb1 hb ho))
 exact bodyPost_ret (v := .agg #[.int .i64 q, .int .i64 x, .slice a1 l.length c1]) (by simp [results, Try.results53, go_sem, *]) rfl ⟨_, rfl, OwnN.mono ((((HO.out.set (by show w.heap.size < _; omega) _).set (by show w.heap.size + 1 < _; omega) _).set (by show w.heap.size + 1 < _; omega) _).set (by show w.heap.size + 1 < _; omega) _) (by omega), by have h9 := HB1.out; go_grown⟩
set_option maxRecDepth 100000 in
set_option maxHeartbeats 1600000 in
set_option maxRecDepth 100000 in
theorem areLabels_any (v : Value) (l : List Int) (w : World) (h : Nums w v l) (hl : l.length ≤ 17592186044000) :
  Calls Try.prog 36 #[v] w fun e w' => e = .returned (.bool (labB l)) ∧ w = w' := by
 obtain ⟨a, cap, rfl, hc⟩ := h.get
 have HC : Hid (∀ j, j < l.length → ∃ b off, a = some ⟨b, off, none⟩ ∧ b < w.heap.size ∧ w.cell? ⟨b, off + j, none⟩ = some (.int .i64 (el l j))) := hc
 have HS : Hid (∀ k, k < l.length → labB (l.drop k) = (inB (el l k) 1 1000 && labB (l.drop (k + 1)))) := fun k hk => labB_drop hk
 have HE : Hid (labB (l.drop l.length) = true) := by rw [List.drop_length]; rfl
 have HG : Hid (labB l = labB (l.drop 0)) := rfl
 clear h hc
 generalize labB l = r at *
 generalize l.length = n at *
 go_enter Try.func36, Try.ntmps36
 go_wp2
 go_loop [7] (fun i => ∃ k : Nat, k ≤ n ∧ i = .int .i64 k ∧ Hid (r = labB (l.drop k))) (fun i => n - (intOf i).toNat)
 case atStart => exact ⟨0, Nat.zero_le _, rfl, HG⟩
 case round =>
  clear HG
  obtain ⟨k, hk, rfl, hg⟩ := hrel
  by_cases hlt : k < n
  ·have hlt' : (k : Int) < (n : Int) := by omega
   have hk0 : (0 : Int) ≤ (k : Int) := by omega
   obtain ⟨b, off, rfl, hb, g0⟩ := HC.out k hlt
   have HN : Hid (r = (inB (el l k) 1 1000 && labB (l.drop (k + 1)))) := by show r = _; rw [hg.out, HS.out k hlt]
   clear hg
   generalize el l k = p at *
   have ways : p ≤ 0 ∨ (¬ p ≤ 0 ∧ (1000 : Int) < p) ∨ (¬ p ≤ 0 ∧ ¬ (1000 : Int) < p) := by omega
   rcases ways with h1 | ⟨h1, h2⟩ | ⟨h1, h2⟩
   ·have hr : r = false := by rw [HN.out]; simp [inB]; omega
    subst hr
    clear HN
    go_wp2
    go_ret
    exact ⟨rfl, rfl⟩
   ·have hr : r = false := by rw [HN.out]; simp [inB]; omega
    subst hr
    clear HN
    go_wp2
    go_ret
    exact ⟨rfl, rfl⟩
   ·have HN' : Hid (r = labB (l.drop (k + 1))) := by
     show r = _
     rw [HN.out, show inB p 1 1000 = true by simp [inB]; omega, Bool.true_and]
    clear HN
    go_wp2
    go_round
    case rel => exact ⟨k + 1, by omega, by go_num, HN'⟩
    case measure => simp [intOf]; omega
  ·have hnl : ¬ (k : Int) < (n : Int) := by omega
   have hkn : k = n := by omega
   have hr : r = true := by rw [hg.out, hkn, HE.out]
   subst hr
   clear hg
   go_wp2
   go_ret
   exact ⟨rfl, rfl⟩
set_option maxRecDepth 100000 in
theorem mayBe_any (v : Value) (k : Mk) (w : World) (h : MkIs w v k) :
  Calls Try.prog 59 #[v] w fun e w' => e = .returned (.bool (mkB k)) ∧ Below w.heap.size w w' := by
 obtain ⟨q, x, l⟩ := k
 obtain ⟨vo, rfl, hn⟩ := h
 simp only at hn ⊢
 have HN : Hid (Nums w vo l) := hn
 obtain ⟨a, c, rfl⟩ := Row.sl hn
 clear hn
 have HU : Hid (Below w.heap.size w (w.alloc (.cells #[.int .i64 q, .int .i64 x, .slice a l.length c] 67))) := by show Below _ _ _; go_grown
 have HM : Hid (mkB (q, x, l) = (inB x 0 1000000000 && decide (l.length ≤ 800) && labB l)) := rfl
 generalize mkB (q, x, l) = r at *
 have ways : x < 0 ∨ (0 ≤ x ∧ (1000000000 : Int) < x) ∨ (0 ≤ x ∧ x ≤ 1000000000) := by omega
 rcases ways with h1 | ⟨h1, h2⟩ | ⟨h1, h2⟩
 ·have hr : r = false := by rw [HM.out]; simp [inB]; omega
  subst hr
  have h1' : ¬ (0 : Int) ≤ x := by omega
  clear HM
  go_enter Try.func59, Try.ntmps59
  go_wp2
  go_ret
  exact ⟨rfl, HU.out⟩
 ·have hr : r = false := by rw [HM.out]; simp [inB]; omega
  subst hr
  have h2' : ¬ x ≤ 1000000000 := by omega
  clear HM
  go_enter Try.func59, Try.ntmps59
  go_wp2
  go_ret
  exact ⟨rfl, HU.out⟩
 ·by_cases h3 : l.length ≤ 800
  ·have hr : r = labB l := by rw [HM.out]; simp [inB, h1, h2, h3]
   subst hr
   have h3' : (l.length : Int) ≤ 800 := by omega
   clear HM
   go_enter Try.func59, Try.ntmps59
   go_wp2_with (first
    | (go_at_call 36; (with_reducible refine (areLabels_any _ l _ (HN.out.later HU.out (Nat.le_refl _)) (by omega)).mono ?_); rintro e w1 ⟨rfl, rfl⟩))
   go_ret
   exact ⟨rfl, HU.out⟩
  ·have hr : r = false := by rw [HM.out]; simp [h3]
   subst hr
   have h3' : ¬ (l.length : Int) ≤ 800 := by omega
   clear HM
   go_enter Try.func59, Try.ntmps59
   go_wp2
   go_ret
   exact ⟨rfl, HU.out⟩
set_option maxRecDepth 100000 in
set_option maxHeartbeats 1600000 in
theorem rises_any (z : Int) (vs v : Value) (n : Nat) (l : List Mk) (w : World) (a0 : Option Addr) (cap0 : Nat) (hv : vs = .slice a0 n cap0) (h : Marks w v l) (hs : l.length * 40 ≤ 140737488351232) (hn : n ≤ 1000) :
  Calls Try.prog 58 #[.agg #[.int .i64 z, vs], v] w fun e w' => e = .returned (.bool (risB n 0 l)) ∧ Below w.heap.size w w' := by
 subst hv
 obtain ⟨a, cap, rfl, hc⟩ := h.get
 have HC : Hid (∀ j, j < l.length → ∃ b off vo, a = some ⟨b, off, none⟩ ∧ b < w.heap.size ∧ w.cell? ⟨b, off + j * 3, none⟩ = some (.int .i64 (el l j).1) ∧ w.cell? ⟨b, off + j * 3 + 1, none⟩ = some (.int .i64 (el l j).2.1) ∧ w.cell? ⟨b, off + j * 3 + 2, none⟩ = some vo ∧ Nums w vo (el l j).2.2) := hc
 have HS : Hid (∀ k (b : Int), k < l.length → risB n b (l.drop k) = (decide (b ≤ (el l k).1) && decide ((el l k).1 < n) && risB n ((el l k).1 + 1) (l.drop (k + 1)))) := fun k b hk => risB_drop hk
 have HE : Hid (∀ b : Int, risB n b (l.drop l.length) = true) := fun b => by rw [List.drop_length]; rfl
 have HG : Hid (risB n 0 l = risB n 0 (l.drop 0)) := rfl
 clear h hc
 generalize risB n 0 l = r at *
 generalize l.length = L at *
 go_enter Try.func58, Try.ntmps58
 go_wp2
 go_loopw [5, 10] (fun s5 i wr => ∃ (k : Nat) (b : Int), k ≤ L ∧ s5 = .int .i64 b ∧ i = .int .i64 k ∧ 0 ≤ b ∧ b ≤ 1000 ∧ Hid (r = risB n b (l.drop k)) ∧ wr.cell? ⟨w.heap.size, 1, none⟩ = some (.slice a0 n cap0) ∧ w.heap.size + 1 ≤ wr.heap.size ∧ Hid (Below w.heap.size w wr)) (fun _ i _ => L - (intOf i).toNat)
 case atStart => exact ⟨0, 0, Nat.zero_le _, rfl, rfl, by omega, by omega, HG, by go_cell, by simp, by show Below _ _ _; go_grown⟩
 case round =>
  clear HG
  obtain ⟨k, b, hk, rfl, rfl, hb0, hb1, hg, c0, hsz, hbw⟩ := hrel
  by_cases hlt : k < L
  ·have hlt' : (k : Int) < (L : Int) := by omega
   have hk0 : (0 : Int) ≤ (k : Int) := by omega
   obtain ⟨bb, off, vo, rfl, hbl, g0, g1, g2, hno⟩ := HC.out k hlt
   obtain ⟨ao, co, rfl⟩ := Row.sl hno
   clear hno
   have g0 := (hbw.out.cell (p := ⟨bb, off + k * 3, none⟩) hbl).trans g0
   have g1 := (hbw.out.cell (p := ⟨bb, off + k * 3 + 1, none⟩) hbl).trans g1
   have g2 := (hbw.out.cell (p := ⟨bb, off + k * 3 + 2, none⟩) hbl).trans g2
   have HN : Hid (r = (decide (b ≤ (el l k).1) && decide ((el l k).1 < n) && risB n ((el l k).1 + 1) (l.drop (k + 1)))) := by show r = _; rw [hg.out, HS.out k b hlt]
   clear hg
   generalize (el l k).1 = p at *
   generalize (el l k).2.1 = p1 at *
   have z0 : w.heap.size < wr.heap.size := by omega
   have z1 : ¬ w.heap.size = wr.heap.size := by omega
   have ways : p < b ∨ (¬ p < b ∧ (n : Int) ≤ p) ∨ (¬ p < b ∧ ¬ (n : Int) ≤ p) := by omega
   rcases ways with h1 | ⟨h1, h2⟩ | ⟨h1, h2⟩
   ·have hr : r = false := by rw [HN.out]; simp; omega
    subst hr
    clear HN
    go_wp2
    go_ret
    exact ⟨rfl, by have h9 := hbw.out; go_grown⟩
   ·have hr : r = false := by rw [HN.out]; simp; omega
    subst hr
    clear HN
    go_wp2
    go_ret
    exact ⟨rfl, by have h9 := hbw.out; go_grown⟩
   ·have HN' : Hid (r = risB n (p + 1) (l.drop (k + 1))) := by
     show r = _
     rw [HN.out, show decide (b ≤ p) = true by simp; omega, show decide (p < (n : Int)) = true by simp; omega, Bool.true_and, Bool.true_and]
    clear HN
    go_wp2
    go_roundw
    case rel => exact ⟨k + 1, p + 1, by omega, by go_num, by go_num, by omega, by omega, HN', by go_cell, by simp; omega, by show Below _ _ _; have h9 := hbw.out; go_grown⟩
    case measure => simp [intOf]; omega
  ·have hnl : ¬ (k : Int) < (L : Int) := by omega
   have hkn : k = L := by omega
   have hr : r = true := by rw [hg.out, hkn, HE.out]
   subst hr
   clear hg
   go_wp2
   go_ret
   exact ⟨rfl, hbw.out⟩
end Go.Proofs.Ytkeeiihaijhdoaa.Sm
namespace Go.Proofs.Ytkeeiihaijhdoaa.Wt
open Go.ChangeShapes Go.WideShapes Go.ChangeAt Go.RowKit
set_option linter.unusedVariables false
theorem low {w w' : World} {a : Addr} {v : Value} (h : w.cell? a = some v) (hb : Below w.heap.size w w') : w'.cell? a = some v := (hb.cell (World.block_lt_of_cell? _ _ h)).trans h
theorem lowA {w w' : World} {o : Obj} {a : Addr} {v : Value} (h : w.cell? a = some v) (hb : Below (w.alloc o).heap.size (w.alloc o) w') : w'.cell? a = some v := low (low h ((Below.refl _ _).alloc (Nat.le_refl _) o)) hb
theorem lowN {w w' : World} {c : Value} {t : TypeId} (hb : Below (w.alloc (.cells #[c] t)).heap.size (w.alloc (.cells #[c] t)) w') : w'.cell? ⟨w.heap.size, 0, none⟩ = some c := low ((Blk.made w #[c] t).cell 0 rfl) hb
end Go.Proofs.Ytkeeiihaijhdoaa.Wt
namespace Go.Proofs.Ytkeeiihaijhdoaa.Wt
open Go.ChangeShapes Go.WideShapes Go.ChangeAt Go.RowKit
open Go.Proofs.Ytkeeiihaijhdoaa.Pl
set_option linter.unusedVariables false
theorem arcsOf_any (v : Value) (m : Mc) (w : World) (h : Mach w v m) (hok : okM m) (h60 : m.2.length ≤ 60) (q : Nat) (hq : arcN m.2 = q) :
  Calls Try.prog 49 #[v] w fun e w' => e = .returned (.int .i64 q) ∧ Below w.heap.size w w' := by
 subst hq
 obtain ⟨z, l⟩ := m
 obtain ⟨vs, rfl, hS⟩ := h
 obtain ⟨a, cap, rfl, hc⟩ := hS.get
 have hA := okM_arcs hok h60
 clear hS hok
 have HX : Hid (∀ k, arcN (l.take k) ≤ 60 * 4398046511104) := hA
 have HC : Hid (∀ j, j < l.length → ∃ b off va, a = some ⟨b, off, none⟩ ∧ b < w.heap.size ∧ w.cell? ⟨b, off + j * 2, none⟩ = some (.int .i64 (el l j).1) ∧ w.cell? ⟨b, off + j * 2 + 1, none⟩ = some va ∧ Arcs w va (el l j).2) := hc
 clear hA hc
 simp only at h60 ⊢
 generalize hn : l.length = n at *
 go_enter Try.func49, Try.ntmps49
 go_wp2
 go_loopw [3, 9] (fun s i wr => ∃ k : Nat, k ≤ n ∧ i = .int .i64 k ∧ s = .int .i64 (arcN (l.take k)) ∧ Below w.heap.size w wr) (fun _ i _ => n - (intOf i).toNat)
 case atStart => exact ⟨0, Nat.zero_le _, rfl, rfl, by go_grown⟩
 case round =>
  obtain ⟨k, hk, rfl, rfl, hb⟩ := hrel
  by_cases hlt : k < n
  ·obtain ⟨b, off, va, rfl, hbl, g0, g1, gA⟩ := HC.out k hlt
   obtain ⟨a2, cap2, rfl⟩ := gA.sl
   have g0 := (hb.cell (p := ⟨b, off + k * 2, none⟩) hbl).trans g0
   have g1 := (hb.cell (p := ⟨b, off + k * 2 + 1, none⟩) hbl).trans g1
   have h1 := HX.out k
   have h2 := HX.out (k + 1)
   have HE : Hid (arcN (l.take (k + 1)) = arcN (l.take k) + (el l k).2.length) := arcN_take (by omega)
   rw [HE.out] at h2
   clear gA
   generalize arcN (l.take k) = s at *
   generalize (el l k).2.length = q at *
   generalize (el l k).1 = f at *
   go_wp2
   go_roundw
   case rel => exact ⟨k + 1, by omega, by go_num, by rw [HE.out]; go_num, hb.alloc hb.size _⟩
   case measure => simp [intOf]; omega
  ·go_wp2
   go_ret
   have hke : k = n := by omega
   refine ⟨ret_intK ?_, hb⟩
   rw [hke, ← hn, List.take_length]
def AskS (g : Nat) (lb : Array Value) (p : St → Bool) (l : List St) (w : World) : Prop :=
 (∀ ar W, (callFunc g ar).run Try.prog W = .ok (.enter g ar) W) ∧
 ∀ j, j < l.length → ∀ (W : World) (va : Value), Below w.heap.size w W → Arcs W va (el l j).2 → Calls Try.prog g (#[.agg #[.int .i64 (el l j).1, va]] ++ lb) W fun e w' => e = .returned (.bool (p (el l j))) ∧ Below W.heap.size W w'
set_option maxRecDepth 100000 in
theorem everyState_any (v : Value) (m : Mc) (w : World) (h : Mach w v m) (g : Nat) (lb : Array Value) (p : St → Bool) (hg : AskS g lb p m.2 w) (hl : m.2.length ≤ 60) (r : Bool) (hr : m.2.all p = r) :
  Calls Try.prog 68 #[v, .func (.func g) #[] lb] w fun e w' => e = .returned (.bool r) ∧ Below w.heap.size w w' := by
 obtain ⟨z, l⟩ := m
 obtain ⟨vs, rfl, hS⟩ := h
 obtain ⟨a, cap, rfl, hc⟩ := hS.get
 obtain ⟨eg, hg⟩ := hg
 simp only at hg hl hr ⊢
 have HC : Hid (∀ j, j < l.length → ∃ b off va, a = some ⟨b, off, none⟩ ∧ b < w.heap.size ∧ w.cell? ⟨b, off + j * 2, none⟩ = some (.int .i64 (el l j).1) ∧ w.cell? ⟨b, off + j * 2 + 1, none⟩ = some va ∧ Arcs w va (el l j).2) := hc
 have HG : Hid (∀ j, j < l.length → ∀ (W : World) (va : Value), Below w.heap.size w W → Arcs W va (el l j).2 → Calls Try.prog g (#[.agg #[.int .i64 (el l j).1, va]] ++ lb) W fun e w' => e = .returned (.bool (p (el l j))) ∧ Below W.heap.size W w') := hg
 have HR : Hid (l.all p = r) := hr
 clear hS hc hg hr
 generalize hn : l.length = n at *
 have HN : Hid (l.length = n) := hn
 clear hn
 have hnot : ∀ (x : Bool) (w : World), (Op.unary .not (.bool x)).run Try.prog w = .ok (.bool (!x)) w := fun _ _ => rfl
 go_enter Try.func68, Try.ntmps68
 go_wp2
 go_loopw [10] (fun i wr => ∃ k : Nat, k ≤ n ∧ i = .int .i64 k ∧ Hid ((l.take k).all p = true) ∧ Below w.heap.size w wr) (fun i _ => n - (intOf i).toNat)
 case atStart => exact ⟨0, Nat.zero_le _, rfl, rfl, by go_grown⟩
 case round =>
  obtain ⟨k, hk, rfl, hok, hb⟩ := hrel
  by_cases hlt : k < n
  ·obtain ⟨b, off, va, rfl, hbl, g0, g1, gA⟩ := HC.out k hlt
   have g0 := (hb.cell (p := ⟨b, off + k * 2, none⟩) hbl).trans g0
   have g1 := (hb.cell (p := ⟨b, off + k * 2 + 1, none⟩) hbl).trans g1
   have GA := gA.later hb (Nat.le_refl _)
   have GA2 : Hid (Arcs (wr.alloc (.cells #[.int .i64 (el l k).1, va] 58)) va (el l k).2) := GA.later ((Below.refl _ _).alloc (Nat.le_refl _) _) (Nat.le_refl _)
   have HC1 := HG.out k hlt (wr.alloc (.cells #[.int .i64 (el l k).1, va] 58)) va (hb.alloc hb.size _) GA2.out
   have HB2 : Hid (Below w.heap.size w (wr.alloc (.cells #[.int .i64 (el l k).1, va] 58))) := hb.alloc hb.size _
   obtain ⟨a2, cap2, hva⟩ := GA.sl
   subst hva
   rcases bool_cases' (p (el l k)) with hp | hp
   ·have HO : Hid ((l.take (k + 1)).all p = true) := by show _ = _; rw [all_take_succ (by rw [HN.out]; exact hlt), hok.out, hp]; rfl
    rw [hp] at HC1
    have HCC : Hid (Calls Try.prog g (#[.agg #[.int .i64 (el l k).1, .slice a2 (el l k).2.length cap2]] ++ lb) (wr.alloc (.cells #[.int .i64 (el l k).1, .slice a2 (el l k).2.length cap2] 58)) fun e w' => e = .returned (.bool true) ∧ Below (wr.alloc (.cells #[.int .i64 (el l k).1, .slice a2 (el l k).2.length cap2] 58)).heap.size (wr.alloc (.cells #[.int .i64 (el l k).1, .slice a2 (el l k).2.length cap2] 58)) w') := HC1
    clear HC1 GA GA2 gA hp hok
    generalize (el l k).2.length = q at *
    generalize (el l k).1 = f at *
    go_wp2_with (go_at_fn g; refine HCC.out.mono ?_; rintro e w' ⟨rfl, hb'⟩; have HB3 : Hid (Below w.heap.size w w') := HB2.out.trans (hb'.mono HB2.out.size); clear hb')
    go_roundw
    case rel => exact ⟨k + 1, by omega, by go_num, HO, HB3.out⟩
    case measure => simp [intOf]; omega
   ·have HO : Hid (false = r) := by show _ = _; rw [← HR.out]; exact (all_false_el (by rw [HN.out]; exact hlt) hp).symm
    rw [hp] at HC1
    have HCC : Hid (Calls Try.prog g (#[.agg #[.int .i64 (el l k).1, .slice a2 (el l k).2.length cap2]] ++ lb) (wr.alloc (.cells #[.int .i64 (el l k).1, .slice a2 (el l k).2.length cap2] 58)) fun e w' => e = .returned (.bool false) ∧ Below (wr.alloc (.cells #[.int .i64 (el l k).1, .slice a2 (el l k).2.length cap2] 58)).heap.size (wr.alloc (.cells #[.int .i64 (el l k).1, .slice a2 (el l k).2.length cap2] 58)) w') := HC1
    clear HC1 GA GA2 gA hp hok
    generalize (el l k).2.length = q at *
    generalize (el l k).1 = f at *
    go_wp2_with (go_at_fn g; refine HCC.out.mono ?_; rintro e w' ⟨rfl, hb'⟩; have HB3 : Hid (Below w.heap.size w w') := HB2.out.trans (hb'.mono HB2.out.size); clear hb')
    go_ret
    exact ⟨ret_boolK HO.out, HB3.out⟩
  ·have hke : k = n := by omega
   have HO : Hid (true = r) := by show _ = _; rw [← HR.out]; have h := hok.out; rw [hke, ← HN.out, List.take_length] at h; exact h.symm
   have hnl : ¬ (k : Int) < (n : Int) := by omega
   clear hke hok hlt
   go_wp2
   go_ret
   exact ⟨ret_boolK HO.out, hb⟩
end Go.Proofs.Ytkeeiihaijhdoaa.Wt
