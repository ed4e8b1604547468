/- The program: a number as bytes, behind others. The program: arcs, states and machines as bytes, behind others. The program: the sum of bytes. The program: Encode. -/
import Derived.Test.YtbbjpdadickilaaDoorBo
import Derived.Test.YtbbjpdadickilaaDoorBy
import Derived.Laws.BitsLemmas
import Derived.Test.YtbbjpdadickilaaDoorMcV
namespace Go.Proofs.YtbbjpdadickilaaDoor.Pl
set_option linter.unusedVariables false
theorem split_byte (n : Int) {k q : Nat} (h : q < k) : IntKind.u8.wrap (n / 2 ^ (8 * q)) = el (splitL n k) (k - 1 - q) := by
  rw [splitL_el n (by omega), show k - 1 - (k - 1 - q) = q by omega, IntKind.wrap_u8, Int.pow_mul]
  rfl
end Go.Proofs.YtbbjpdadickilaaDoor.Pl
namespace Go.Proofs.YtbbjpdadickilaaDoor.Wt
open Go.ChangeShapes Go.WideShapes Go.ChangeAt Go.RowKit
open Go.Proofs.YtbbjpdadickilaaDoor.Pl
set_option linter.unusedVariables false
set_option linter.unusedSimpArgs false
/-- append(b, c...), and where the row lies behind it. -/
theorem OwnBys.appS {w : World} {base : Nat} {v vx : Value} {l xs : List Int} (h : OwnBys w base v l) (hx : Bys w vx xs) (hl : l.length + xs.length ≤ 1000000) (hbase : base ≤ w.heap.size) :
    ∃ n a c w', (Builtin.append_ #[25, 25] 25 #[v, vx]).run Tryd.prog w = .ok (.slice a n c) w' ∧ OwnBys w' base (.slice a n c) (l ++ xs) ∧ w.grownBy w' v.ownBlock ∧ Near w v.ownBlock (.slice a n c) := by
  obtain ⟨i1, hi1, hy0, hy1, hy2⟩ := info_parts infoU8
  obtain ⟨v', w', hr, h2, h3, h4⟩ := run_append_spot (P := Tryd.prog) encU1_len (by decide) encU1_one 25 25 base 5 i1 _ 1 Tryd.underlying25 hi1 hy0 hy1 hy2 rfl v l.length (l.flatMap encU1) h vx xs hx (by unfold maxLen; omega) (by omega) hbase
  obtain ⟨a, c, hv⟩ := own_sl h2
  subst hv
  refine ⟨_, a, c, w', hr, ?_, h3, h4⟩
  unfold OwnBys
  rw [List.length_append, List.flatMap_append]
  exact h2
/-- A row of bytes was written on, nothing else has changed. -/
def AppTo (w : World) (v : Value) (base : Nat) (w' : World) (v' : Value) (l : List Int) : Prop := OwnBys w' base v' l ∧ w.grownBy w' v.ownBlock ∧ Near w v.ownBlock v'
theorem AppTo.own {w w' : World} {v v' : Value} {base : Nat} {l : List Int} (h : AppTo w v base w' v' l) : OwnBys w' base v' l := h.1
theorem AppTo.start {w : World} {v : Value} {base : Nat} {l : List Int} (h : OwnBys w base v l) : AppTo w v base w v l := ⟨h, World.grownBy.refl _ _, .inl rfl⟩
theorem AppTo.trans {w w1 w2 : World} {v v1 v2 : Value} {base : Nat} {l1 l2 : List Int} (h : AppTo w v base w1 v1 l1) (g : AppTo w1 v1 base w2 v2 l2) : AppTo w v base w2 v2 l2 := ⟨g.1, h.2.2.grown h.2.1 g.2.1, h.2.2.next h.2.1 g.2.2⟩
theorem AppTo.new {w w1 w2 : World} {v v1 : Value} {base : Nat} {l : List Int} (h : AppTo w v base w1 v1 l) (hb : Below w1.heap.size w1 w2) : AppTo w v base w2 v1 l := ⟨h.1.later hb, gTrans h.2.1 (gNew hb), h.2.2⟩
theorem AppTo.new' {w w1 w2 : World} {v v2 : Value} {base : Nat} {l : List Int} (hb : Below w.heap.size w w1) (h : AppTo w1 v base w2 v2 l) : AppTo w v base w2 v2 l := ⟨h.1, gTrans (gNew hb) h.2.1, h.2.2.elim .inl fun ⟨b, h1, h2⟩ => .inr ⟨b, h1, Nat.le_trans hb.size h2⟩⟩
theorem AppTo.below {w w1 : World} {v v1 : Value} {base : Nat} {l l1 : List Int} (h : AppTo w v base w1 v1 l1) (ho : OwnBys w base v l) (hs : base ≤ w.heap.size) : Below base w w1 := gBelow h.2.1 (own_geK ho) hs
theorem AppTo.blk {w w1 : World} {v v1 : Value} {base : Nat} {l l1 : List Int} (h : AppTo w v base w1 v1 l1) (ho : OwnBys w base v l) {b : Nat} {cs : Array Value} {t : TypeId} (hb : Blk w b cs t) (hne : 5 ≠ t) : Blk w1 b cs t := hb.grown h.2.1 (own_ne ho hb hne)
/-- What a writer answers: the bytes that were there, and these. -/
def AppAns (v : Value) (base : Nat) (l : List Int) (w : World) (e : Ending) (w' : World) : Prop := ∃ a n c, e = .returned (.slice a n c) ∧ AppTo w v base w' (.slice a n c) l
set_option maxRecDepth 100000 in
theorem appendNumber_any (v : Value) (l : List Int) (n : Int) (k : Nat) (base : Nat) (w : World) (h : OwnBys w base v l) (hk : k ≤ 4) (hl : l.length ≤ 100000) (hbase : base ≤ w.heap.size) :
    Calls Tryd.prog 10 #[v, .int .i64 n, .int .i64 (k : Int)] w fun e w' => AppAns v base (l ++ splitL n k) w e w' := by
  have HO : Hid (OwnBys w base v l) := h
  have HS : Hid (∀ q, q < k → (splitL n k).take (k - q) = (splitL n k).take (k - (q + 1)) ++ [el (splitL n k) (k - 1 - q)]) := fun q hq => by
    rw [show k - q = (k - (q + 1)) + 1 by omega, take_el (by rw [splitL_len]; omega)]
    congr 3; omega
  have HF : Hid ((splitL n k).take k = splitL n k) := List.take_of_length_le (by rw [splitL_len]; exact Nat.le_refl _)
  have HL : Hid (∀ j, (l ++ (splitL n k).take j).length ≤ 100004) := fun j => by rw [List.length_append, List.length_take, splitL_len]; omega
  have HA : Hid (∀ a n' c w', AppTo w v base w' (.slice a n' c) (l ++ splitL n k) → AppAns v base (l ++ splitL n k) w (.returned (.slice a n' c)) w') := fun a n' c w' h1 => ⟨a, n', c, rfl, h1⟩
  have HX : Hid (∀ q, q < k → IntKind.u8.wrap (n / 2 ^ (8 * q)) = el (splitL n k) (k - 1 - q)) := fun q hq => split_byte n hq
  obtain ⟨a0, n0, c0, hv⟩ := h.sl
  subst hv
  clear h
  have ek : IntKind.i64.wrap ((k : Int) - 1) = (k : Int) - 1 := by rw [IntKind.wrap_i64]; omega
  generalize splitL n k = sp at *
  go_enter Tryd.func10, Tryd.ntmps10
  go_wp2
  go_loopw [0, 7] (fun s0 s7 wr => ∃ (p : Nat), p ≤ k ∧ s7 = .int .i64 ((p : Int) - 1) ∧ Hid (AppTo w (.slice a0 n0 c0) base wr s0 (l ++ sp.take (k - p)))) (fun _ s7 _ => (intOf s7 + 1).toNat)
  case atStart => exact ⟨k, Nat.le_refl _, rfl, by rw [Nat.sub_self, List.take_zero, List.append_nil]; exact AppTo.start HO.out⟩
  case round =>
    obtain ⟨p, hp, rfl, ho⟩ := hrel
    obtain ⟨a5, n5, c5, hv5⟩ := ho.out.1.sl
    subst hv5
    cases p with
    | zero =>
      have hnl : ¬ (0 : Int) ≤ ((0 : Nat) : Int) - 1 := by omega
      rw [Nat.sub_zero, HF.out] at ho
      go_wp2
      go_ret
      exact HA.out _ _ _ _ ho.out
    | succ q =>
      rw [show ((q + 1 : Nat) : Int) - 1 = (q : Int) by omega]
      have hq : q < k := by omega
      have hx := HX.out q hq
      have hs := HS.out q hq
      have hl5 := HL.out (k - (q + 1))
      have hws := ho.out.2.1.size
      generalize el sp (k - 1 - q) = x at *
      generalize sp.take (k - (q + 1)) = sj at *
      have s0 : (0 : Int) ≤ 8 * (q : Int) := by omega
      have s1 : 8 * (q : Int) ≤ 64 := by omega
      have s2 : (8 * (q : Int)).toNat = 8 * q := by omega
      have s3 : IntKind.i64.wrap (8 * (q : Int)) = 8 * (q : Int) := by rw [IntKind.wrap_i64]; omega
      have s4 : IntKind.i64.wrap ((q : Int) - 1) = (q : Int) - 1 := by rw [IntKind.wrap_i64]; omega
      have HS' := hid hs
      clear hs
      have hal : Below wr.heap.size wr (wr.alloc (.cells #[.int .u8 x] 5)) := (Below.refl _ _).alloc (Nat.le_refl _) _
      obtain ⟨nn, aa, cc, wm, hR, hO, hG, hN⟩ := OwnBys.appS (ho.out.1.later hal) (bys_block (ws := [x]) (cap := 1) (Blk.made wr #[.int .u8 x] 5)) (by simp only [List.length_append, List.length_singleton] at hl5 ⊢; omega) (by simp; omega)
      have R := hid hR
      have HOm := hid ((ho.out.new hal).trans ⟨hO, hG, hN⟩)
      clear hR hO hG hN hal
      go_wp2_with (first | (at_builtin; refine wpListAppendRun rfl _ _ 25 rfl rfl rfl R.out ?_))
      go_roundw
      case rel => exact ⟨q, by omega, by go_num, by rw [HS'.out, ← List.append_assoc]; exact HOm⟩
      case measure => simp [intOf]
end Go.Proofs.YtbbjpdadickilaaDoor.Wt
namespace Go.Proofs.YtbbjpdadickilaaDoor.Wt
open Go.ChangeShapes Go.WideShapes Go.ChangeAt Go.RowKit
open Go.Proofs.YtbbjpdadickilaaDoor.Pl
set_option linter.unusedVariables false
set_option linter.unusedSimpArgs false
theorem appendNumber1 (v : Value) (l : List Int) (n : Int) (base : Nat) (w : World) (h : OwnBys w base v l) (hl : l.length ≤ 100000) (hbase : base ≤ w.heap.size) :
    Calls Tryd.prog 10 #[v, .int .i64 n, .int .i64 1] w fun e w' => AppAns v base (l ++ splitL n 1) w e w' := appendNumber_any v l n 1 base w h (by omega) hl hbase
theorem appendNumber2 (v : Value) (l : List Int) (n : Int) (base : Nat) (w : World) (h : OwnBys w base v l) (hl : l.length ≤ 100000) (hbase : base ≤ w.heap.size) :
    Calls Tryd.prog 10 #[v, .int .i64 n, .int .i64 2] w fun e w' => AppAns v base (l ++ splitL n 2) w e w' := appendNumber_any v l n 2 base w h (by omega) hl hbase
theorem appendNumber4 (v : Value) (l : List Int) (n : Int) (base : Nat) (w : World) (h : OwnBys w base v l) (hl : l.length ≤ 100000) (hbase : base ≤ w.heap.size) :
    Calls Tryd.prog 10 #[v, .int .i64 n, .int .i64 4] w fun e w' => AppAns v base (l ++ splitL n 4) w e w' := appendNumber_any v l n 4 base w h (by omega) hl hbase
theorem split_one {x : Int} (h0 : 0 ≤ x) (h1 : x < 256) : splitL x 1 = [x] := by
  show [x / 256 ^ 0 % 256] = [x]
  rw [Int.pow_zero]; congr 1; omega
set_option maxRecDepth 100000 in
theorem appendArc_any (v : Value) (l : List Int) (c : Ar) (base : Nat) (w : World) (h : OwnBys w base v l) (hl : l.length ≤ 90000) (hbase : base ≤ w.heap.size) (h3 : 0 ≤ c.2.2.2 ∧ c.2.2.2 < 256) :
    Calls Tryd.prog 33 #[v, .agg #[.int .i64 c.1, .int .i64 c.2.1, .int .i64 c.2.2.1, .int .i64 c.2.2.2]] w fun e w' => AppAns v base (l ++ packA c) w e w' := by
  have hP : packA c = splitL c.1 2 ++ splitL c.2.1 2 ++ splitL c.2.2.1 4 ++ splitL c.2.2.2 1 := by rw [split_one h3.1 h3.2]; rfl
  rw [hP]
  obtain ⟨x0, x1, x2, x3⟩ := c
  simp only at *
  clear hP h3
  obtain ⟨a0, n0, c0, hv⟩ := h.sl
  subst hv
  have hal : Below w.heap.size w (w.alloc (.cells #[.int .i64 x0, .int .i64 x1, .int .i64 x2, .int .i64 x3] 52)) := (Below.refl _ _).alloc (Nat.le_refl _) _
  have HT : Hid (AppTo w (.slice a0 n0 c0) base (w.alloc (.cells #[.int .i64 x0, .int .i64 x1, .int .i64 x2, .int .i64 x3] 52)) (.slice a0 n0 c0) l) := (AppTo.start h).new hal
  have HK : Hid (Blk (w.alloc (.cells #[.int .i64 x0, .int .i64 x1, .int .i64 x2, .int .i64 x3] 52)) w.heap.size #[.int .i64 x0, .int .i64 x1, .int .i64 x2, .int .i64 x3] 52) := Blk.made w _ _
  have HBS : Hid (∀ W v' l', AppTo w (.slice a0 n0 c0) base W v' l' → base ≤ W.heap.size) := fun W v' l' g => Nat.le_trans hbase g.2.1.size
  clear h hal hbase
  go_enter Tryd.func33, Tryd.ntmps33
  go_wp2_with (first
    | (go_at_call 10; (with_reducible refine (appendNumber4 _ _ _ _ _ HT.out.own (by (try simp only [List.length_append, splitL_len]); omega) (HBS.out _ _ _ HT.out)).mono ?_); rintro e w1 ⟨a1, n1, c1, rfl, ht⟩; have HK := hid (ht.blk HT.out.own HK.out (by decide)); have HT := hid (HT.out.trans ht); have g2 := HK.out.cell 2 (v := .int .i64 x2) rfl; have g3 := HK.out.cell 3 (v := .int .i64 x3) rfl; clear ht)
    | (go_at_call 10; (with_reducible refine (appendNumber2 _ _ _ _ _ HT.out.own (by (try simp only [List.length_append, splitL_len]); omega) (HBS.out _ _ _ HT.out)).mono ?_); rintro e w1 ⟨a1, n1, c1, rfl, ht⟩; have HK := hid (ht.blk HT.out.own HK.out (by decide)); have HT := hid (HT.out.trans ht); have g1 := HK.out.cell 1 (v := .int .i64 x1) rfl; have g2 := HK.out.cell 2 (v := .int .i64 x2) rfl; clear ht)
    | (go_at_call 10; (with_reducible refine (appendNumber1 _ _ _ _ _ HT.out.own (by (try simp only [List.length_append, splitL_len]); omega) (HBS.out _ _ _ HT.out)).mono ?_); rintro e w1 ⟨a1, n1, c1, rfl, ht⟩; have HT := hid (HT.out.trans ht); clear ht))
  go_ret
  refine ⟨_, _, _, rfl, ?_⟩
  have := HT.out
  simp only [← List.append_assoc]
  exact this
theorem packS_to (l : List Int) (f : Int) (ar : List Ar) (j : Nat) (h : j < ar.length) : l ++ (splitL f 4 ++ splitL ar.length 2 ++ (ar.take (j + 1)).flatMap packA) = l ++ (splitL f 4 ++ splitL ar.length 2 ++ (ar.take j).flatMap packA) ++ packA (el ar j) := by
  rw [take_el h]
  simp
set_option maxRecDepth 100000 in
theorem appendState_any (v : Value) (l : List Int) (f : Int) (ar : List Ar) (va : Value) (base : Nat) (w : World) (h : OwnBys w base v l) (hl : l.length + 9 * ar.length ≤ 80000) (hbase : base ≤ w.heap.size) (hA : ∀ W, Below base w W → Arcs W va ar) (h3 : ∀ c ∈ ar, 0 ≤ c.2.2.2 ∧ c.2.2.2 < 256) :
    Calls Tryd.prog 21 #[v, .agg #[.int .i64 f, va]] w fun e w' => AppAns v base (l ++ packS (f, ar)) w e w' := by
  have HS : Hid (l ++ packS (f, ar) = l ++ (splitL f 4 ++ splitL ar.length 2 ++ (ar.take ar.length).flatMap packA)) := by show _ = _; rw [List.take_length]; rfl
  have HJ : Hid (∀ j, j < ar.length → l ++ (splitL f 4 ++ splitL ar.length 2 ++ (ar.take (j + 1)).flatMap packA) = l ++ (splitL f 4 ++ splitL ar.length 2 ++ (ar.take j).flatMap packA) ++ packA (el ar j)) := fun j hj => packS_to l f ar j hj
  have HZ : Hid (l ++ splitL f 4 ++ splitL ar.length 2 = l ++ (splitL f 4 ++ splitL ar.length 2 ++ (ar.take 0).flatMap packA)) := by show _ = _; simp
  have HLN : Hid (∀ j, (l ++ (splitL f 4 ++ splitL ar.length 2 ++ (ar.take j).flatMap packA)).length ≤ 80006) := fun j => by
    simp only [List.length_append, splitL_len, packAs_len, List.length_take]; omega
  have H3 : Hid (∀ j, j < ar.length → 0 ≤ (el ar j).2.2.2 ∧ (el ar j).2.2.2 < 256) := fun j hj => h3 _ (el_mem hj)
  rw [HS.out]
  obtain ⟨a0, n0, c0, hv⟩ := h.sl
  subst hv
  have HAR : Hid (∀ W, Below base w W → Arcs W va ar) := hA
  obtain ⟨a2, cap2, hva, hvx⟩ := (hA w (Below.refl _ _)).get
  subst hva
  clear hvx
  have hal : Below w.heap.size w (w.alloc (.cells #[.int .i64 f, .slice a2 ar.length cap2] 50)) := (Below.refl _ _).alloc (Nat.le_refl _) _
  have HT : Hid (AppTo w (.slice a0 n0 c0) base (w.alloc (.cells #[.int .i64 f, .slice a2 ar.length cap2] 50)) (.slice a0 n0 c0) l) := (AppTo.start h).new hal
  have HK : Hid (Blk (w.alloc (.cells #[.int .i64 f, .slice a2 ar.length cap2] 50)) w.heap.size #[.int .i64 f, .slice a2 ar.length cap2] 50) := Blk.made w _ _
  have HBS : Hid (∀ W v' l', AppTo w (.slice a0 n0 c0) base W v' l' → base ≤ W.heap.size) := fun W v' l' g => Nat.le_trans hbase g.2.1.size
  have HBW : Hid (∀ W v' l', AppTo w (.slice a0 n0 c0) base W v' l' → Below base w W) := fun W v' l' g => g.below h hbase
  clear h hal hbase hA h3 HS
  generalize hL : ar.length = L at *
  have HL : Hid (ar.length = L) := hL
  clear hL
  obtain ⟨TT, hTT⟩ : ∃ TT : Nat → List Int, ∀ j, l ++ (splitL f 4 ++ splitL (L : Int) 2 ++ (ar.take j).flatMap packA) = TT j := ⟨_, fun _ => rfl⟩
  simp only [hTT] at HJ HZ HLN ⊢
  clear hTT
  go_enter Tryd.func21, Tryd.ntmps21
  go_wp2_with (first
    | (go_at_call 10; (with_reducible refine (appendNumber4 _ _ _ _ _ HT.out.own (by (try simp only [List.length_append, splitL_len]); omega) (HBS.out _ _ _ HT.out)).mono ?_); rintro e w1 ⟨a1, n1, c1, rfl, ht⟩; have HK := hid (ht.blk HT.out.1 HK.out (by decide)); have HT := hid (HT.out.trans ht); have g1 := HK.out.cell 1 (v := .slice a2 L cap2) rfl; clear ht)
    | (go_at_call 10; (with_reducible refine (appendNumber2 _ _ _ _ _ HT.out.own (by (try simp only [List.length_append, splitL_len]); omega) (HBS.out _ _ _ HT.out)).mono ?_); rintro e w1 ⟨a1, n1, c1, rfl, ht⟩; have HK := hid (ht.blk HT.out.1 HK.out (by decide)); have HT := hid (HT.out.trans ht); have g1 := HK.out.cell 1 (v := .slice a2 L cap2) rfl; clear ht))
  rw [HZ.out] at HT
  go_loopw [0, 19] (fun s0 i wr => ∃ (j : Nat), j ≤ L ∧ i = .int .i64 j ∧ Hid (AppTo w (.slice a0 n0 c0) base wr s0 (TT j))) (fun _ i _ => L - (intOf i).toNat)
  case atStart => exact ⟨0, Nat.zero_le _, rfl, HT⟩
  case round =>
    obtain ⟨j, hj, rfl, ht⟩ := hrel
    clear HT HK HZ g1
    obtain ⟨a5, n5, c5, hv5⟩ := ht.out.own.sl
    subst hv5
    by_cases hjL : j < L
    · obtain ⟨a2', cap2', hva, hga⟩ := (HAR.out wr (HBW.out _ _ _ ht.out)).get
      injection hva with hva1 hva2 hva3
      subst hva1 hva3
      clear hva2
      obtain ⟨b3, off3, rfl, hb3, e0, e1, e2, e3⟩ := hga j (by rw [HL.out]; exact hjL)
      have h3 := H3.out j hjL
      have hjs := HLN.out j
      have HJ1 : Hid (TT (j + 1) = TT j ++ packA (el ar j)) := HJ.out j hjL
      clear hga
      generalize el ar j = c at *
      have hal : Below wr.heap.size wr (wr.alloc (.cells #[.int .i64 c.1, .int .i64 c.2.1, .int .i64 c.2.2.1, .int .i64 c.2.2.2] 52)) := (Below.refl _ _).alloc (Nat.le_refl _) _
      have HT2 := hid (ht.out.new hal)
      have hj0 : (0 : Int) ≤ (j : Int) := by omega
      have hj1 : (j : Int) < (L : Int) := by omega
      clear hal
      go_wp2_with (first
        | (go_at_call 33; (with_reducible refine (appendArc_any _ _ c _ _ HT2.out.own (by omega) (HBS.out _ _ _ HT2.out) h3).mono ?_); rintro e w1 ⟨a1, n1, c1, rfl, ht1⟩; have HT3 := hid (HT2.out.trans ht1); clear ht1))
      go_roundw
      case rel => exact ⟨j + 1, by omega, by go_num, by rw [HJ1.out]; exact HT3⟩
      case measure => simp [intOf]; omega
    · have hnl : ¬ (j : Int) < (L : Int) := by omega
      obtain rfl : j = L := by omega
      go_wp2
      go_ret
      exact ⟨_, _, _, rfl, ht.out⟩
end Go.Proofs.YtbbjpdadickilaaDoor.Wt
namespace Go.Proofs.YtbbjpdadickilaaDoor.Pl
set_option linter.unusedVariables false
theorem bits_xor16 (x y : BitVec 16) : bits .xor .u16 (x.toNat : Int) (y.toNat : Int) = (((x ^^^ y).toNat : Nat) : Int) := by
  have h := (x ^^^ y).isLt
  simp only [bits, BitVec.ofInt_natCast, BitVec.toNat_xor, BitVec.toNat_ofNat]
  have hx : x.toNat % 2 ^ IntKind.u16.bits = x.toNat := Nat.mod_eq_of_lt x.isLt
  have hy : y.toNat % 2 ^ IntKind.u16.bits = y.toNat := Nat.mod_eq_of_lt y.isLt
  rw [hx, hy, IntKind.wrap_u16]
  rw [BitVec.toNat_xor] at h
  omega
theorem shl16 (x : BitVec 16) : IntKind.u16.wrap ((x.toNat : Int) * 2) = (((x <<< 1).toNat : Nat) : Int) := by
  rw [IntKind.wrap_u16, BitVec.toNat_shiftLeft, Nat.shiftLeft_eq]
  omega
theorem msb16 (x : BitVec 16) : (x.toNat : Int) / 32768 = if x.msb = true then 1 else 0 := by
  have h := x.isLt
  rw [BitVec.msb_eq_decide]
  by_cases g : 32768 ≤ x.toNat
  · rw [if_pos (by simpa using g)]; omega
  · rw [if_neg (by simpa using g)]; omega
theorem crcBits_succ (k : Nat) (v : BitVec 16) : crcBits (k + 1) v = crcBit (crcBits k v) := by
  induction k generalizing v with
  | zero => rfl
  | succ k ih => show crcBits (k + 1) (crcBit v) = crcBit (crcBits k (crcBit v)); exact ih _
theorem crcBit_eq (v : BitVec 16) : crcBit v = if v.msb = true then (v <<< 1) ^^^ 0x1021#16 else v <<< 1 := by
  unfold crcBit crcIn
  rw [Bool.false_xor]
  cases v.msb <;> simp
theorem crcV_take (l : List Int) {k : Nat} (h : k < l.length) : crcV (l.take (k + 1)) = crcByte (crcV (l.take k)) (el l k) := by
  rw [take_el h]
  simp [crcV]
end Go.Proofs.YtbbjpdadickilaaDoor.Pl
namespace Go.Proofs.YtbbjpdadickilaaDoor.Wt
open Go.ChangeShapes Go.WideShapes Go.ChangeAt Go.RowKit
open Go.Proofs.YtbbjpdadickilaaDoor.Pl
set_option linter.unusedVariables false
set_option linter.unusedSimpArgs false
set_option maxRecDepth 100000 in
theorem sumOf_any (v : Value) (l : List Int) (w : World) (h : Bys w v l) (hb : bytesB l) (hl : l.length ≤ 8000) :
    Calls Tryd.prog 11 #[v] w fun e w' => e = .returned (.int .u16 (crcN l)) ∧ w = w' := by
  obtain ⟨a, cap, rfl, hc⟩ := h.get
  have HC : Hid (∀ j, j < l.length → ∃ b off, a = some ⟨b, off, none⟩ ∧ b < w.heap.size ∧ w.cell? ⟨b, off + j, none⟩ = some (.int .u8 (el l j))) := hc
  have HB : Hid (bytesB l) := hb
  clear hc h hb
  generalize hn : l.length = n at *
  have HN : Hid (l.length = n) := hn
  clear hn
  go_enter Tryd.func11, Tryd.ntmps11
  go_wp2
  go_loop [3, 9] (fun s3 i => ∃ (k : Nat), k ≤ n ∧ i = .int .i64 k ∧ s3 = .int .u16 ((crcV (l.take k)).toNat : Int)) (fun _ i => n - (intOf i).toNat)
  case atStart => exact ⟨0, Nat.zero_le _, rfl, rfl⟩
  case round =>
    obtain ⟨k, hk, rfl, rfl⟩ := hrel
    by_cases hlt : k < n
    · obtain ⟨b, off, rfl, hbl, g⟩ := HC.out k hlt
      have hx := HB.out (el l k) (el_mem (by rw [HN.out]; exact hlt))
      have HS : Hid (crcV (l.take (k + 1)) = crcByte (crcV (l.take k)) (el l k)) := crcV_take l (by rw [HN.out]; exact hlt)
      generalize crcV (l.take k) = r at *
      generalize el l k = x at *
      obtain ⟨y, hy⟩ : ∃ y : BitVec 16, BitVec.ofNat 16 (x.toNat * 256) = y := ⟨_, rfl⟩
      have e1 : IntKind.u16.wrap x = x := by rw [IntKind.wrap_u16]; omega
      have e2 : IntKind.u16.wrap (x * 256) = (y.toNat : Int) := by
        rw [← hy, IntKind.wrap_u16, BitVec.toNat_ofNat]; omega
      have e3 := bits_xor16 r y
      have HS2 : Hid (crcV (l.take (k + 1)) = crcBits 8 (r ^^^ y)) := by show _ = _; rw [HS.out]; unfold crcByte; rw [hy]
      clear HS hy
      generalize r ^^^ y = z at *
      have hlt' : (k : Int) < (n : Int) := by omega
      go_wp2
      go_loop [3, 18] (fun s3 i => ∃ (j : Nat), j ≤ 8 ∧ i = .int .i64 j ∧ s3 = .int .u16 ((crcBits j z).toNat : Int)) (fun _ i => 8 - (intOf i).toNat)
      case atStart => exact ⟨0, Nat.zero_le _, rfl, rfl⟩
      case round =>
        obtain ⟨j, hj, rfl, rfl⟩ := hrel
        by_cases hjl : j < 8
        · have HJ : Hid (crcBits (j + 1) z = crcBit (crcBits j z)) := crcBits_succ j z
          obtain ⟨q3, hq3⟩ : ∃ q3, crcBits (j + 1) z = q3 := ⟨_, rfl⟩
          have HQ3 : Hid (crcBits (j + 1) z = q3) := hq3
          rw [hq3] at HJ
          clear hq3
          generalize crcBits j z = q at *
          have f1 := msb16 q
          have f2 := shl16 q
          have hj8 : (j : Int) < 8 := by omega
          have HQ := crcBit_eq q
          cases hm : q.msb with
          | true =>
            rw [hm, if_pos rfl] at f1 HQ
            have f3 := bits_xor16 (q <<< 1) 0x1021#16
            have f4 : ((0x1021#16).toNat : Int) = 4129 := rfl
            rw [f4, ← HQ, ← HJ.out] at f3
            generalize q <<< 1 = q2 at *
            go_wp2
            go_round
            case rel => exact ⟨j + 1, by omega, by go_num, by rw [HQ3.out]⟩
            case measure => simp [intOf]; omega
          | false =>
            rw [hm, if_neg (by simp)] at f1 HQ
            rw [← HQ, ← HJ.out] at f2
            go_wp2
            go_round
            case rel => exact ⟨j + 1, by omega, by go_num, by rw [HQ3.out]⟩
            case measure => simp [intOf]; omega
        · have hjl' : ¬ (j : Int) < 8 := by omega
          obtain rfl : j = 8 := by omega
          go_wp2
          go_round
          case rel => exact ⟨k + 1, by omega, by go_num, by rw [HS2.out]⟩
          case measure => simp [intOf]; omega
    · have hnl : ¬ (k : Int) < (n : Int) := by omega
      obtain rfl : k = n := by omega
      have HE : Hid (l.take k = l) := List.take_of_length_le (by rw [HN.out]; exact Nat.le_refl _)
      go_wp2
      go_ret
      exact ⟨by rw [HE.out]; rfl, rfl⟩
end Go.Proofs.YtbbjpdadickilaaDoor.Wt
namespace Go.Proofs.YtbbjpdadickilaaDoor.Wt
open Go.ChangeShapes Go.WideShapes Go.ChangeAt Go.RowKit
open Go.Proofs.YtbbjpdadickilaaDoor.Pl
set_option linter.unusedVariables false
set_option linter.unusedSimpArgs false
theorem packTo_snoc {z : Int} {l : List St} {k : Nat} (h : k < l.length) : packTo z l (k + 1) = packTo z l k ++ packS ((el l k).1, (el l k).2) := by
  unfold packTo
  rw [take_el h]
  simp
set_option maxRecDepth 100000 in
theorem appendMachine_any (z : Int) (l : List St) (vs : Value) (w : World) (h : Mach w (.agg #[.int .i64 z, vs]) (z, l)) (hr : faultM (z, l) = 0) :
    Calls Tryd.prog 9 #[.slice none 0 0, .agg #[.int .i64 z, vs]] w fun e w' => AppAns (.slice none 0 0) w.heap.size (packB (z, l)) w e w' := by
  have hz := (faultM_zero hr).2
  simp only [rangeB, Bool.and_eq_true, inB, decide_eq_true_eq] at hz
  have hz1 : -1 ≤ z := hz.1.1
  have h60 := (right_size hr).1
  have h400 := (right_size hr).2
  have hz2 : z ≤ 60 := by omega
  obtain ⟨vs', hvs, hS⟩ := h
  simp only [Value.agg.injEq, Array.mk.injEq, List.cons.injEq, and_true, true_and] at hvs
  subst hvs
  obtain ⟨a, cap, rfl, hc⟩ := hS.get
  have HC : Hid (∀ j, j < l.length → ∃ b off va, a = some ⟨b, off, none⟩ ∧ b < w.heap.size ∧ w.cell? ⟨b, off + j * 2, none⟩ = some (.int .i64 (el l j).1) ∧ w.cell? ⟨b, off + j * 2 + 1, none⟩ = some va ∧ Arcs w va (el l j).2) := hc
  have HST : Hid (∀ j, j < l.length → (∀ c ∈ (el l j).2, 0 ≤ c.2.2.2 ∧ c.2.2.2 < 256) ∧ (el l j).2.length ≤ 400) := fun j hj => ⟨fun c hcm => by
    have h5 := List.all_eq_true.1 (right_st hr hj).2 c hcm
    simp only [arcB, inB, Bool.and_eq_true, decide_eq_true_eq] at h5
    omega, by
    have h1 := arcN_take hj
    have h2 := arcN_take_all l (j + 1)
    omega⟩
  have HTK : Hid (∀ k, (packTo z l k).length ≤ 4000) := fun k => Nat.le_trans (packTo_len z l k) (by omega)
  have HTS : Hid (∀ k, k < l.length → packTo z l (k + 1) = packTo z l k ++ packS ((el l k).1, (el l k).2)) := fun k hk => packTo_snoc hk
  have HTN : Hid (packTo z l l.length = packB (z, l)) := packTo_all z l
  have HT0 : Hid ([] ++ [84] ++ splitL (l.length : Int) 1 ++ splitL (z + 1) 1 = packTo z l 0) := by
    show _ = _
    rw [split_one (by omega) (by omega), split_one (by omega) (by omega)]
    simp [packTo, packH]
  rw [← HTN.out]
  have hal : Below w.heap.size w (w.alloc (.cells #[.int .i64 z, .slice a l.length cap] 24)) := (Below.refl _ _).alloc (Nat.le_refl _) _
  have ho0 : OwnBys w w.heap.size (.slice none 0 0) [] := World.ownsRow_nil _ _ _ _
  have HT : Hid (AppTo w (.slice none 0 0) w.heap.size (w.alloc (.cells #[.int .i64 z, .slice a l.length cap] 24)) (.slice none 0 0) []) := (AppTo.start ho0).new hal
  have HBW : Hid (∀ W v' l', AppTo w (.slice none 0 0) w.heap.size W v' l' → Below w.heap.size w W) := fun W v' l' g => g.below ho0 (Nat.le_refl _)
  have hk0 : Blk (w.alloc (.cells #[.int .i64 z, .slice a l.length cap] 24)) w.heap.size #[.int .i64 z, .slice a l.length cap] 24 := Blk.made w _ _
  generalize hW0 : w.alloc (.cells #[.int .i64 z, .slice a l.length cap] 24) = W0 at *
  have hal2 : Below W0.heap.size W0 (W0.alloc (.cells #[.int .u8 84] 5)) := (Below.refl _ _).alloc (Nat.le_refl _) _
  obtain ⟨nn, aa, cc, wm, hR, hO, hG, hN⟩ := OwnBys.appS (HT.out.own.later hal2) (bys_block (ws := [84]) (cap := 1) (Blk.made W0 #[.int .u8 84] 5)) (by simp) (by have := hal.size; simp; omega)
  have hta : AppTo (W0.alloc (.cells #[.int .u8 84] 5)) (.slice none 0 0) w.heap.size wm (.slice aa nn cc) ([] ++ [84]) := ⟨hO, hG, hN⟩
  have HK : Hid (Blk wm w.heap.size #[.int .i64 z, .slice a l.length cap] 24) := hta.blk (HT.out.own.later hal2) (hk0.alloc _) (by decide)
  replace HT := hid ((HT.out.new hal2).trans hta)
  subst hW0
  simp only [World.size_alloc, List.length_singleton] at hR
  have R := hid hR
  have g0 := HK.out.cell 0 (v := .int .i64 z) rfl
  have g1 := HK.out.cell 1 (v := .slice a l.length cap) rfl
  clear hS hc hr hz hal ho0 hk0 hal2 hR hO hG hN hta HTN
  generalize hn : l.length = n at *
  have HN : Hid (l.length = n) := hn
  clear hn
  have u1 : IntKind.i64.wrap (z + 1) = z + 1 := wrapI (by omega) (by omega)
  go_enter Tryd.func9, Tryd.ntmps9
  go_wp2_with (first
    | (at_builtin; refine wpListAppendRun rfl _ _ 25 rfl rfl rfl R.out ?_; clear R)
    | (go_at_call 10; (with_reducible refine (appendNumber1 _ _ _ _ _ HT.out.own (by (try simp only [List.length_append, splitL_len, List.length_singleton, List.length_nil]); omega) (HBW.out _ _ _ HT.out).size).mono ?_); rintro e w1 ⟨a1, n1, c1, rfl, ht⟩; have HK := hid (ht.blk HT.out.1 HK.out (by decide)); have HT := hid (HT.out.trans ht); have g0 := HK.out.cell 0 (v := .int .i64 z) rfl; have g1 := HK.out.cell 1 (v := .slice a n cap) rfl; clear ht))
  rw [HT0.out] at HT
  go_loopw [0, 23] (fun s0 i wr => ∃ (k : Nat), k ≤ n ∧ i = .int .i64 k ∧ Hid (AppTo w (.slice none 0 0) w.heap.size wr s0 (packTo z l k))) (fun _ i _ => n - (intOf i).toNat)
  case atStart => exact ⟨0, Nat.zero_le _, rfl, HT⟩
  case round =>
    obtain ⟨k, hk, rfl, ht⟩ := hrel
    clear HT HK HT0 g0 g1
    obtain ⟨a5, n5, c5, hv5⟩ := ht.out.own.sl
    subst hv5
    by_cases hkn : k < n
    · obtain ⟨b, off, va, rfl, hbl, g0, g1, gA⟩ := HC.out k hkn
      obtain ⟨a2, cap2, hva, hga⟩ := gA.get
      subst hva
      have hbw := HBW.out _ _ _ ht.out
      have g0 := (hbw.cell (p := ⟨b, off + k * 2, none⟩) hbl).trans g0
      have g1 := (hbw.cell (p := ⟨b, off + k * 2 + 1, none⟩) hbl).trans g1
      obtain ⟨hto, hL4⟩ := HST.out k hkn
      have HTO : Hid (∀ c ∈ (el l k).2, 0 ≤ c.2.2.2 ∧ c.2.2.2 < 256) := hto
      have HAR : Hid (∀ W, Below w.heap.size w W → Arcs W (.slice a2 (el l k).2.length cap2) (el l k).2) := fun W hW => gA.later hW (Nat.le_refl _)
      have HTE : Hid (packTo z l (k + 1) = packTo z l k ++ packS ((el l k).1, (el l k).2)) := HTS.out k hkn
      have hks := HTK.out k
      clear gA hga hto
      generalize (el l k).1 = fin at *
      generalize (el l k).2 = ar at *
      generalize packTo z l k = TK at *
      have HAC : Hid (∀ W v', AppTo w (.slice none 0 0) w.heap.size W v' TK → Calls Tryd.prog 21 #[v', .agg #[.int .i64 fin, .slice a2 ar.length cap2]] W fun e w' => AppAns v' w.heap.size (TK ++ packS (fin, ar)) W e w') := fun W v' g =>
        appendState_any v' TK fin ar _ w.heap.size W g.own (by omega) (HBW.out _ _ _ g).size (fun W' hW' => HAR.out W' ((HBW.out _ _ _ g).trans hW')) HTO.out
      have hal : Below wr.heap.size wr (wr.alloc (.cells #[.int .i64 fin, .slice a2 ar.length cap2] 50)) := (Below.refl _ _).alloc (Nat.le_refl _) _
      have HT2 := hid (ht.out.new hal)
      generalize hL : ar.length = L at *
      have hk0 : (0 : Int) ≤ (k : Int) := by omega
      have hk1 : (k : Int) < (n : Int) := by omega
      clear hal hbw hL
      go_wp2_with (first
        | (go_at_call 21; (with_reducible refine (HAC.out _ _ HT2.out).mono ?_); rintro e w1 ⟨a1, n1, c1, rfl, ht1⟩; have HT3 := hid (HT2.out.trans ht1); clear ht1))
      go_roundw
      case rel => exact ⟨k + 1, by omega, by go_num, by rw [HTE.out]; exact HT3⟩
      case measure => simp [intOf]; omega
    · have hnl : ¬ (k : Int) < (n : Int) := by omega
      obtain rfl : k = n := by omega
      go_wp2
      go_ret
      exact ⟨_, _, _, rfl, ht.out⟩
theorem u16_i64 {n : Int} (h : 0 ≤ n ∧ n < 65536) : IntKind.i64.wrap n = n := wrapI (by omega) (by omega)
set_option maxRecDepth 100000 in
theorem encodeP_any (v : Value) (m : Mc) (w : World) (h : Mach w v m) (hok : okM m) : Calls Tryd.prog 4 #[v] w fun e w' => PackAns m w e w' := by
  obtain ⟨z, l⟩ := m
  obtain ⟨r, hr⟩ : ∃ r, faultM (z, l) = r := ⟨_, rfl⟩
  have HM : Hid (Mach w v (z, l)) := h
  have HK : Hid (okM (z, l)) := hok
  have HR : Hid (faultM (z, l) = r) := hr
  obtain ⟨vs, rfl, hS⟩ := h
  obtain ⟨a, cap, rfl⟩ := hS.sl
  clear hS hok
  by_cases h0 : r = 0
  · subst h0
    have HA : Hid (∀ v w', OwnBys w' w.heap.size v (packB (z, l) ++ splitL (crcN (packB (z, l))) 2) → Below w.heap.size w w' → PackAns (z, l) w (.returned (.tuple #[v, .int .i64 0])) w') := fun v w' h1 hb => ⟨_, by rw [hr], by rw [if_pos hr]; exact h1, hb⟩
    have HPB : Hid (bytesB (packB (z, l)) ∧ (packB (z, l)).length ≤ 3963) := ⟨packB_bytes hr, pack_short hr⟩
    have HAM : Hid (∀ W, Below w.heap.size w W → Calls Tryd.prog 9 #[.slice none 0 0, .agg #[.int .i64 z, .slice a l.length cap]] W fun e w' => AppAns (.slice none 0 0) W.heap.size (packB (z, l)) W e w') := fun W hW => appendMachine_any z l _ W (HM.out.later hW (Nat.le_refl _)) hr
    have hcr := crcN_range (packB (z, l))
    clear hr
    generalize packB (z, l) = PB at *
    have HCR : Hid (∀ W v, Bys W v PB → Calls Tryd.prog 11 #[v] W fun e w' => e = .returned (.int .u16 (crcN PB)) ∧ W = w') := fun W v h => sumOf_any v PB W h HPB.out.1 (by have := HPB.out.2; omega)
    have hpl := HPB.out.2
    generalize crcN PB = cr at *
    have uc : IntKind.i64.wrap cr = cr := u16_i64 hcr
    go_enter Tryd.func4, Tryd.ntmps4
    go_wp2_with (first
      | (go_at_call 5; (with_reducible refine (coreCheck_any _ (z, l) _ (HM.out.later (B := w.heap.size) (by go_grown) (Nat.le_refl _)) HK.out 0 HR.out).mono ?_); rintro e w1 ⟨rfl, hb⟩; obtain ⟨s1, b1, hb1⟩ := boxed hb (by simp); have HB1 : Hid (Below w.heap.size w w1) := hb1; have c0 := b1.cell 0 (v := .int .i64 z) rfl; have c1 := b1.cell 1 (v := .slice a l.length cap) rfl; clear b1 hb1 hb)
      | (go_at_call 9; (with_reducible refine (HAM.out _ HB1.out).mono ?_); rintro e w2 ⟨a2, n2, c2, rfl, ht⟩; have HO : Hid (OwnBys w2 w1.heap.size (.slice a2 n2 c2) PB) := ht.own; have HB2 : Hid (Below w1.heap.size w1 w2) := ht.below (l := []) (World.ownsRow_nil _ _ _ _) (Nat.le_refl _); clear ht)
      | (go_at_call 11; (with_reducible refine (HCR.out _ _ HO.out.bys).mono ?_); rintro e w3 ⟨rfl, rfl⟩)
      | (go_at_call 10; (with_reducible refine (appendNumber2 _ _ _ _ _ HO.out (by omega) HB2.out.size).mono ?_); rintro e w3 ⟨a3, n3, c3, rfl, ht⟩; have HO3 : Hid (OwnBys w3 w1.heap.size (.slice a3 n3 c3) (PB ++ splitL cr 2)) := ht.own; have HB3 : Hid (Below w1.heap.size w1 w3) := HB2.out.trans (ht.below HO.out HB2.out.size); clear ht))
    exact bodyPost_ret (v := .tuple #[.slice a3 n3 c3, .int .i64 0]) (by simp [results, Tryd.results4, go_sem]) rfl (HA.out _ _ (ownMono HO3.out HB1.out.size) (HB1.out.trans (HB3.out.mono HB1.out.size)))
  · have HA : Hid (∀ w', Below w.heap.size w w' → PackAns (z, l) w (.returned (.tuple #[.slice none 0 0, .int .i64 r])) w') := fun w' hb => ⟨_, by rw [hr], by rw [if_neg (by rw [hr]; exact h0)]; exact World.ownsRow_nil _ _ _ _, hb⟩
    have h0' : (r != 0) = true := bne_iff_ne.2 h0
    clear hr h0
    go_enter Tryd.func4, Tryd.ntmps4
    go_wp2_with (first
      | (go_at_call 5; (with_reducible refine (coreCheck_any _ (z, l) _ (HM.out.later (B := w.heap.size) (by go_grown) (Nat.le_refl _)) HK.out r HR.out).mono ?_); rintro e w1 ⟨rfl, hb⟩; obtain ⟨s1, b1, hb1⟩ := boxed hb (by simp); have HB1 : Hid (Below w.heap.size w w1) := hb1; clear b1 hb1 hb))
    exact bodyPost_ret (v := .tuple #[.slice none 0 0, .int .i64 r]) (by simp [results, Tryd.results4, go_sem]) rfl (HA.out _ HB1.out)
end Go.Proofs.YtbbjpdadickilaaDoor.Wt
