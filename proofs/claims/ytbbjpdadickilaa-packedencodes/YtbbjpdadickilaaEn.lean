/- The program: a number as bytes, behind others. -/
import Derived.Test.YtbbjpdadickilaaBo
namespace Go.Proofs.Ytbbjpdadickilaa.Pl
set_option linter.unusedVariables false
theorem split_byte (n : Int) {k q : Nat} (h : q < k) : IntKind.u8.wrap (n / 2 ^ (8 * q)) = el (splitL n k) (k - 1 - q) := by
  rw [splitL_el n (by omega), show k - 1 - (k - 1 - q) = q by omega, IntKind.wrap_u8, Int.pow_mul]
  rfl
end Go.Proofs.Ytbbjpdadickilaa.Pl
namespace Go.Proofs.Ytbbjpdadickilaa.Wt
open Go.ChangeShapes Go.WideShapes Go.ChangeAt Go.RowKit
open Go.Proofs.Ytbbjpdadickilaa.Pl
set_option linter.unusedVariables false
set_option linter.unusedSimpArgs false
/-- append(b, c...), and where the row lies behind it. -/
theorem OwnBys.appS {w : World} {base : Nat} {v vx : Value} {l xs : List Int} (h : OwnBys w base v l) (hx : Bys w vx xs) (hl : l.length + xs.length ≤ 1000000) (hbase : base ≤ w.heap.size) :
    ∃ n a c w', (Builtin.append_ #[26, 26] 26 #[v, vx]).run Try.prog w = .ok (.slice a n c) w' ∧ OwnBys w' base (.slice a n c) (l ++ xs) ∧ w.grownBy w' v.ownBlock ∧ Near w v.ownBlock (.slice a n c) := by
  obtain ⟨i1, hi1, hy0, hy1, hy2⟩ := info_parts infoU8
  obtain ⟨v', w', hr, h2, h3, h4⟩ := run_append_spot (P := Try.prog) encU1_len (by decide) encU1_one 26 26 base 5 i1 _ 1 Try.underlying26 hi1 hy0 hy1 hy2 rfl v l.length (l.flatMap encU1) h vx xs hx (by unfold maxLen; omega) (by omega) hbase
  obtain ⟨a, c, hv⟩ := own_sl h2
  subst hv
  refine ⟨_, a, c, w', hr, ?_, h3, h4⟩
  unfold OwnBys
  rw [List.length_append, List.flatMap_append]
  exact h2
/-- A row of bytes was written on, nothing else has changed. -/
def AppTo (w : World) (v : Value) (base : Nat) (w' : World) (v' : Value) (l : List Int) : Prop := OwnBys w' base v' l ∧ w.grownBy w' v.ownBlock ∧ Near w v.ownBlock v'
theorem AppTo.own {w w' : World} {v v' : Value} {base : Nat} {l : List Int} (h : AppTo w v base w' v' l) : OwnBys w' base v' l := h.1
theorem AppTo.start {w : World} {v : Value} {base : Nat} {l : List Int} (h : OwnBys w base v l) : AppTo w v base w v l := ⟨h, World.grownBy.refl _ _, .inl rfl⟩
theorem AppTo.trans {w w1 w2 : World} {v v1 v2 : Value} {base : Nat} {l1 l2 : List Int} (h : AppTo w v base w1 v1 l1) (g : AppTo w1 v1 base w2 v2 l2) : AppTo w v base w2 v2 l2 := ⟨g.1, h.2.2.grown h.2.1 g.2.1, h.2.2.next h.2.1 g.2.2⟩
theorem AppTo.new {w w1 w2 : World} {v v1 : Value} {base : Nat} {l : List Int} (h : AppTo w v base w1 v1 l) (hb : Below w1.heap.size w1 w2) : AppTo w v base w2 v1 l := ⟨h.1.later hb, gTrans h.2.1 (gNew hb), h.2.2⟩
theorem AppTo.new' {w w1 w2 : World} {v v2 : Value} {base : Nat} {l : List Int} (hb : Below w.heap.size w w1) (h : AppTo w1 v base w2 v2 l) : AppTo w v base w2 v2 l := ⟨h.1, gTrans (gNew hb) h.2.1, h.2.2.elim .inl fun ⟨b, h1, h2⟩ => .inr ⟨b, h1, Nat.le_trans hb.size h2⟩⟩
theorem AppTo.below {w w1 : World} {v v1 : Value} {base : Nat} {l l1 : List Int} (h : AppTo w v base w1 v1 l1) (ho : OwnBys w base v l) (hs : base ≤ w.heap.size) : Below base w w1 := gBelow h.2.1 (own_geK ho) hs
theorem AppTo.blk {w w1 : World} {v v1 : Value} {base : Nat} {l l1 : List Int} (h : AppTo w v base w1 v1 l1) (ho : OwnBys w base v l) {b : Nat} {cs : Array Value} {t : TypeId} (hb : Blk w b cs t) (hne : 5 ≠ t) : Blk w1 b cs t := hb.grown h.2.1 (own_ne ho hb hne)
/-- What a writer answers: the bytes that were there, and these. -/
def AppAns (v : Value) (base : Nat) (l : List Int) (w : World) (e : Ending) (w' : World) : Prop := ∃ a n c, e = .returned (.slice a n c) ∧ AppTo w v base w' (.slice a n c) l
set_option maxRecDepth 100000 in
theorem appendNumber_any (v : Value) (l : List Int) (n : Int) (k : Nat) (base : Nat) (w : World) (h : OwnBys w base v l) (hk : k ≤ 4) (hl : l.length ≤ 100000) (hbase : base ≤ w.heap.size) :
    Calls Try.prog 19 #[v, .int .i64 n, .int .i64 (k : Int)] w fun e w' => AppAns v base (l ++ splitL n k) w e w' := by
  have HO : Hid (OwnBys w base v l) := h
  have HS : Hid (∀ q, q < k → (splitL n k).take (k - q) = (splitL n k).take (k - (q + 1)) ++ [el (splitL n k) (k - 1 - q)]) := fun q hq => by
    rw [show k - q = (k - (q + 1)) + 1 by omega, take_el (by rw [splitL_len]; omega)]
    congr 3; omega
  have HF : Hid ((splitL n k).take k = splitL n k) := List.take_of_length_le (by rw [splitL_len]; exact Nat.le_refl _)
  have HL : Hid (∀ j, (l ++ (splitL n k).take j).length ≤ 100004) := fun j => by rw [List.length_append, List.length_take, splitL_len]; omega
  have HA : Hid (∀ a n' c w', AppTo w v base w' (.slice a n' c) (l ++ splitL n k) → AppAns v base (l ++ splitL n k) w (.returned (.slice a n' c)) w') := fun a n' c w' h1 => ⟨a, n', c, rfl, h1⟩
  have HX : Hid (∀ q, q < k → IntKind.u8.wrap (n / 2 ^ (8 * q)) = el (splitL n k) (k - 1 - q)) := fun q hq => split_byte n hq
  obtain ⟨a0, n0, c0, hv⟩ := h.sl
  subst hv
  clear h
  have ek : IntKind.i64.wrap ((k : Int) - 1) = (k : Int) - 1 := by rw [IntKind.wrap_i64]; omega
  generalize splitL n k = sp at *
  go_enter Try.func19, Try.ntmps19
  go_wp2
  go_loopw [0, 7] (fun s0 s7 wr => ∃ (p : Nat), p ≤ k ∧ s7 = .int .i64 ((p : Int) - 1) ∧ Hid (AppTo w (.slice a0 n0 c0) base wr s0 (l ++ sp.take (k - p)))) (fun _ s7 _ => (intOf s7 + 1).toNat)
  case atStart => exact ⟨k, Nat.le_refl _, rfl, by rw [Nat.sub_self, List.take_zero, List.append_nil]; exact AppTo.start HO.out⟩
  case round =>
    obtain ⟨p, hp, rfl, ho⟩ := hrel
    obtain ⟨a5, n5, c5, hv5⟩ := ho.out.1.sl
    subst hv5
    cases p with
    | zero =>
      have hnl : ¬ (0 : Int) ≤ ((0 : Nat) : Int) - 1 := by omega
      rw [Nat.sub_zero, HF.out] at ho
      go_wp2
      go_ret
      exact HA.out _ _ _ _ ho.out
    | succ q =>
      rw [show ((q + 1 : Nat) : Int) - 1 = (q : Int) by omega]
      have hq : q < k := by omega
      have hx := HX.out q hq
      have hs := HS.out q hq
      have hl5 := HL.out (k - (q + 1))
      have hws := ho.out.2.1.size
      generalize el sp (k - 1 - q) = x at *
      generalize sp.take (k - (q + 1)) = sj at *
      have s0 : (0 : Int) ≤ 8 * (q : Int) := by omega
      have s1 : 8 * (q : Int) ≤ 64 := by omega
      have s2 : (8 * (q : Int)).toNat = 8 * q := by omega
      have s3 : IntKind.i64.wrap (8 * (q : Int)) = 8 * (q : Int) := by rw [IntKind.wrap_i64]; omega
      have s4 : IntKind.i64.wrap ((q : Int) - 1) = (q : Int) - 1 := by rw [IntKind.wrap_i64]; omega
      have HS' := hid hs
      clear hs
      have hal : Below wr.heap.size wr (wr.alloc (.cells #[.int .u8 x] 5)) := (Below.refl _ _).alloc (Nat.le_refl _) _
      obtain ⟨nn, aa, cc, wm, hR, hO, hG, hN⟩ := OwnBys.appS (ho.out.1.later hal) (bys_block (ws := [x]) (cap := 1) (Blk.made wr #[.int .u8 x] 5)) (by simp only [List.length_append, List.length_singleton] at hl5 ⊢; omega) (by simp; omega)
      have R := hid hR
      have HOm := hid ((ho.out.new hal).trans ⟨hO, hG, hN⟩)
      clear hR hO hG hN hal
      go_wp2_with (first | (at_builtin; refine wpListAppendRun rfl _ _ 26 rfl rfl rfl R.out ?_))
      go_roundw
      case rel => exact ⟨q, by omega, by go_num, by rw [HS'.out, ← List.append_assoc]; exact HOm⟩
      case measure => simp [intOf]
end Go.Proofs.Ytbbjpdadickilaa.Wt
