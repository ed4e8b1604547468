/- The statement's own copy of a machine. -/
import Derived.Test.YtkeeiihaijhdoaaMc
import Derived.Test.YtkeeiihaijhdoaaRg
import Derived.Test.YtkeeiihaijhdoaaBlk
namespace Go.Proofs.Ytkeeiihaijhdoaa.Wt
open Go.ChangeShapes Go.WideShapes Go.ChangeAt Go.RowKit
open Go.Proofs.Ytkeeiihaijhdoaa.Pl
set_option linter.unusedVariables false
set_option linter.unusedSimpArgs false
/-- The slice value v is the call's own and holds the states l, each with arcs of the call's own. -/
def OwnSts (w : World) (base : Nat) (v : Value) (l : List St) : Prop :=
  ∃ vs : List (Int × Value), w.ownsRow base 58 2 v vs.length (vs.flatMap encS) ∧ vs.length = l.length ∧ ∀ j, j < l.length → (el vs j).1 = (el l j).1 ∧ w.ownsRow base 75 4 (el vs j).2 (el l j).2.length ((el l j).2.flatMap encA)
theorem OwnSts.nil (w : World) (base : Nat) : OwnSts w base (.slice none 0 0) [] := ⟨[], World.ownsRow_nil _ _ _ _, rfl, by simp⟩
theorem OwnSts.sts {w : World} {base : Nat} {v : Value} {l : List St} (h : OwnSts w base v l) : Sts w v l := by
  obtain ⟨vs, h1, h2, h3⟩ := h
  exact ⟨vs, Row.ofOwn encS_len h1 rfl, h2, fun j hj => ⟨(h3 j hj).1, Row.ofOwn encA_len (h3 j hj).2 rfl⟩⟩
theorem OwnSts.kept {w w' : World} {base : Nat} {v : Value} {l : List St} (h : OwnSts w base v l) (hg : w.grownBy w' none) : OwnSts w' base v l := by
  obtain ⟨vs, h1, h2, h3⟩ := h
  refine ⟨vs, h1.kept hg ?_, h2, fun j hj => ⟨(h3 j hj).1, (h3 j hj).2.kept hg ?_⟩⟩
  · rcases v.ownBlock with _ | _ <;> simp
  · rcases (el vs j).2.ownBlock with _ | _ <;> simp
theorem OwnSts.setCell {w : World} {base : Nat} {v : Value} {l : List St} (h : OwnSts w base v l) {a : Addr} (ha : a.block < base) (u : Value) : OwnSts (w.setCell a u) base v l := by
  obtain ⟨vs, h1, h2, h3⟩ := h
  exact ⟨vs, ownsRow_setCell_below h1 ha u, h2, fun j hj => ⟨(h3 j hj).1, ownsRow_setCell_below (h3 j hj).2 ha u⟩⟩
theorem grown_drew {w w' : World} {row : Option Nat} (h : w.drew.grownBy w' row) : w.grownBy w' row := ⟨h.os, h.tape, h.output, h.size, h.block⟩
theorem own_sl {w : World} {base : Nat} {e : TypeId} {s : Nat} {v : Value} {n : Nat} {xs : List Value} (h : w.ownsRow base e s v n xs) : ∃ a c, v = .slice a n c := by
  rcases h.2 with ⟨hv, rfl⟩ | ⟨g, cap, cur, hv, _⟩
  · exact ⟨_, _, hv⟩
  · exact ⟨_, _, hv⟩
theorem below_new {w w' : World} {base : Nat} (hs : base ≤ w.heap.size) (hg : w.grownBy w' none) : Below base w w' := (Below.refl _ _).grown hg hs (by simp)
theorem own_zero {w : World} {base : Nat} {e : TypeId} {s : Nat} {v : Value} {n : Nat} {xs : List Value} (h : w.ownsRow base e s v (0 + n) ([] ++ xs)) : w.ownsRow base e s v n xs := by simpa using h
theorem own_one {w : World} {base : Nat} {e : TypeId} {s : Nat} {v : Value} {n : Nat} {xs : List Value} (h : w.ownsRow base e s v n xs) : v.oneCell' = true := by
  rcases h.2 with ⟨hv, _⟩ | ⟨g, cap, cur, hv, _⟩ <;> rw [hv] <;> rfl
/-- append(out, State{..}), out and the state's arcs the call's own. -/
theorem run_push {W w1 : World} (s : St) (l : List St) (va vo : Value) (base : Nat)
    (hW : W.heap = w1.heap.push (.cells #[.int .i64 s.1, va] 58)) (hos : W.os = w1.os) (htp : W.tape = w1.tape) (hou : W.output = w1.output)
    (hown : OwnSts w1 base vo l) (hva : w1.ownsRow base 75 4 va s.2.length (s.2.flatMap encA)) (hl : (l.length + 1) * 32 ≤ 140737488355328) (hbase : base ≤ w1.heap.size) :
    ∃ v3 w3, (Builtin.append_ #[22, 22] 22 #[vo, .slice (some ⟨w1.heap.size, 0, none⟩) 1 1]).run Try.prog W = .ok v3 w3 ∧ OwnSts w3 base v3 (l ++ [s]) ∧ Below base w1 w3 := by
  obtain ⟨i1, hi1, hy0, hy1, hy2⟩ := info_parts infoState
  obtain ⟨vs, q1, q2, q3⟩ := hown
  have e1 : ∀ k, k < w1.heap.size → W.heap[k]? = w1.heap[k]? := fun k hk => by rw [hW, Array.getElem?_push_lt hk, Array.getElem?_eq_getElem hk]
  have e0 : W.heap[w1.heap.size]? = some (.cells #[.int .i64 s.1, va] 58 (0, 0)) := by rw [hW]; simp
  have es : W.heap.size = w1.heap.size + 1 := by rw [hW]; simp
  have hg : w1.grownBy W none := ⟨hos, htp, hou, by omega, fun k hk _ => e1 k hk⟩
  have kn : ∀ v : Value, v.ownBlock = none ∨ v.ownBlock ≠ none := fun v => by rcases v.ownBlock with _ | _ <;> simp
  have hvo := q1.kept hg (kn _)
  obtain ⟨v3, w3, hr, h1, h2, _⟩ := run_append_own (P := Try.prog) W base 22 22 58 i1 _ 2 32 Try.underlying22 hi1 hy0 hy1 hy2 rfl (by omega) vo vs.length (vs.flatMap encS) hvo ⟨w1.heap.size, 0, none⟩ 1 1 [.int .i64 s.1, va] rfl (World.news_of_block (cs := #[.int .i64 s.1, va]) e0) (by
    intro u hu
    simp at hu
    rcases hu with rfl | rfl
    · rfl
    · exact own_one hva) (by rw [q2]; unfold maxLen; omega) (by rw [q2]; exact hl) (by omega)
  refine ⟨v3, w3, hr, ⟨vs ++ [(s.1, va)], by simpa [encS] using h1, by simp [q2], ?_⟩, ?_⟩
  · intro j hj
    have hj' : j < l.length ∨ j = l.length := by simp at hj; omega
    rcases hj' with hj' | rfl
    · rw [el_left (by omega), el_left hj']
      have := (q3 j hj').2.kept hg (kn _)
      exact ⟨(q3 j hj').1, this.kept h2 (own_apart this hvo (by decide))⟩
    · rw [el_last, ← q2, el_last]
      have := hva.kept hg (kn _)
      exact ⟨rfl, this.kept h2 (own_apart this hvo (by decide))⟩
  · exact ((Below.refl _ _).grown hg hbase (by simp)).grown h2 (by omega) (own_geK hvo)
theorem blk_a (w : World) (c0 c1 c2 : Array Value) (t : TypeId) : Blk (((w.alloc (.cells c0 t)).alloc (.cells c1 t)).alloc (.cells c2 t)) w.heap.size c0 t := ((Blk.made w c0 t).alloc _).alloc _
theorem blk_b (w : World) (c0 c1 c2 : Array Value) (t : TypeId) : Blk (((w.alloc (.cells c0 t)).alloc (.cells c1 t)).alloc (.cells c2 t)) (w.heap.size + 1) c1 t := by
  have h := Blk.made (w.alloc (.cells c0 t)) c1 t
  simp only [World.size_alloc] at h
  exact h.alloc _
theorem blk_c (w : World) (c0 c1 c2 : Array Value) (t : TypeId) : Blk (((w.alloc (.cells c0 t)).alloc (.cells c1 t)).alloc (.cells c2 t)) (w.heap.size + 2) c2 t := by
  have h := Blk.made ((w.alloc (.cells c0 t)).alloc (.cells c1 t)) c2 t
  simp only [World.size_alloc] at h
  exact h
/-- The cells that a round of the copy reads. -/
def HeldC (B b off n cap k : Nat) (vo va : Value) (f : Int) (w : World) : Prop :=
  w.cell? ⟨B, 1, none⟩ = some (.slice (some ⟨b, off, none⟩) n cap) ∧ w.cell? ⟨B + 1 + 1, 1, none⟩ = some vo ∧ w.cell? ⟨b, off + k * 2, none⟩ = some (.int .i64 f) ∧ w.cell? ⟨b, off + k * 2 + 1, none⟩ = some va
theorem HeldC.below {B b off n cap k : Nat} {vo va : Value} {f : Int} {w w' : World} (h : HeldC B b off n cap k vo va f w) (hb : Below (B + 3) w w') (hB : b < B) : HeldC B b off n cap k vo va f w' := by
  obtain ⟨h1, h2, h3, h4⟩ := h
  exact ⟨(hb.cell (show B < _ by omega)).trans h1, (hb.cell (show B + 1 + 1 < _ by omega)).trans h2, (hb.cell (show b < _ by omega)).trans h3, (hb.cell (show b < _ by omega)).trans h4⟩
set_option maxRecDepth 100000 in
set_option maxHeartbeats 3200000 in
theorem machine_some (z : Int) (b off cap : Nat) (l : List St) (w : World) (hz : 0 < l.length) (hr : l.length * 32 ≤ 140737488351232) (hra : ∀ j, j < l.length → (el l j).2.length * 32 ≤ 140737488351232) (hbw : b < w.heap.size)
    (hc : ∀ j, j < l.length → ∃ va, w.cell? ⟨b, off + j * 2, none⟩ = some (.int .i64 (el l j).1) ∧ w.cell? ⟨b, off + j * 2 + 1, none⟩ = some va ∧ Arcs w va (el l j).2) :
    Calls Try.prog 9 #[.agg #[.int .i64 z, .slice (some ⟨b, off, none⟩) l.length cap]] w fun e w' => ∃ v', e = .returned v' ∧ Mach w' v' (z, l) ∧ Below w.heap.size w w' := by
  obtain ⟨i0, hi0, hz0, hz1, hz2⟩ := info_parts infoArc
  generalize hn : l.length = n at *
  go_enter Try.func9, Try.ntmps9
  go_wp2
  go_loopw [4] (fun i wr => ∃ (k : Nat) (vo : Value), k ≤ n ∧ i = .int .i64 k ∧ OwnSts wr (w.heap.size + 3) vo (l.take k) ∧ Blk wr w.heap.size #[.int .i64 z, .slice (some ⟨b, off, none⟩) n cap] 24 ∧ Blk wr (w.heap.size + 1) #[.int .i64 0, .slice none 0 0] 24 ∧ Blk wr (w.heap.size + 2) #[.int .i64 z, vo] 24 ∧ w.heap.size + 3 ≤ wr.heap.size ∧ Below w.heap.size w wr) (fun i _ => n - (intOf i).toNat)
  case atStart => exact ⟨0, .slice none 0 0, Nat.zero_le _, rfl, OwnSts.nil _ _, blk_a _ _ _ _ _, blk_b _ _ _ _ _, blk_c _ _ _ _ _, by simp, by go_grown⟩
  case round =>
    obtain ⟨k, vo, hk, rfl, hown, b0, b1, b2, hs, hb⟩ := hrel
    have c1 := b0.cell 1 (v := .slice (some ⟨b, off, none⟩) n cap) rfl
    have c2 := b2.cell 0 (v := .int .i64 z) rfl
    have c3 := b2.cell 1 (v := vo) rfl
    by_cases hlt : k < n
    · obtain ⟨va, g0, g1, hA⟩ := hc k hlt
      have G0 := (hb.cell (p := ⟨b, off + k * 2, none⟩) hbw).trans g0
      have G1 := (hb.cell (p := ⟨b, off + k * 2 + 1, none⟩) hbw).trans g1
      have hlt' := hra k hlt
      have hk0 : (0 : Int) ≤ (k : Int) := Int.natCast_nonneg _
      have hk1 : (k : Int) < (n : Int) := by omega
      obtain ⟨v1, w1, r1, ho1, hg1⟩ := run_append_rows (P := Try.prog) (w := wr.drew) encA_len (by decide) encA_one 56 56 (w.heap.size + 3) 75 i0 _ 32 Try.underlying56 hi0 hz0 hz1 hz2 rfl (.slice none 0 0) 0 [] (World.ownsRow_nil _ _ _ _) va (el l k).2 (hA.later hb.drew (Nat.le_refl _)) (by unfold maxLen; omega) (by omega) hs
      have hg1' : wr.grownBy w1 none := grown_drew hg1
      have B1 : Below (w.heap.size + 3) wr w1 := below_new hs hg1'
      have s1 : w.heap.size + 3 ≤ w1.heap.size := Nat.le_trans hs B1.size
      have ho1' := own_zero ho1
      obtain ⟨a1, cp1, rfl⟩ := own_sl ho1'
      obtain ⟨v3, w3, r3, ho3, B3⟩ := run_push (W := w1.alloc (.cells #[.int .i64 (el l k).1, .slice a1 (el l k).2.length cp1] 58)) (el l k) (l.take k) _ vo (w.heap.size + 3) rfl rfl rfl rfl (hown.kept hg1') ho1' (by rw [List.length_take]; omega) s1
      obtain ⟨a3, cp3, rfl⟩ := ho3.sts.sl
      have B13 : Below (w.heap.size + 3) wr w3 := B1.trans B3
      have HD0 : Hid (Blk w3 w.heap.size #[.int .i64 z, .slice (some ⟨b, off, none⟩) n cap] 24) := b0.below B13 (by omega)
      have HD1 : Hid (Blk w3 (w.heap.size + 1) #[.int .i64 0, .slice none 0 0] 24) := b1.below B13 (by omega)
      have HD2 : Hid (Blk w3 (w.heap.size + 2) #[.int .i64 z, vo] 24) := b2.below B13 (by omega)
      have e2 := HD2.out.cell 1 (v := vo) rfl
      have e6 := HD2.out.fz 1
      have HN : Hid (OwnSts w3 (w.heap.size + 3) (.slice a3 (l.take k ++ [el l k]).length cp3) (l.take (k + 1))) := by rw [take_el (by omega)]; exact ho3
      have HB : Hid (Below w.heap.size w w3) := (hb.trans (B1.mono (by omega))).trans (B3.mono (by omega))
      have hs3 : w.heap.size + 3 ≤ w3.heap.size := Nat.le_trans s1 B3.size
      have HS : HeldC w.heap.size b off n cap k vo va (el l k).1 wr.drew := ⟨c1, c3, G0, G1⟩
      have HS1 : HeldC w.heap.size b off n cap k vo va (el l k).1 w1 := HeldC.below (w := wr) ⟨c1, c3, G0, G1⟩ B1 hbw
      have HS2 : HeldC w.heap.size b off n cap k vo va (el l k).1 (w1.alloc (.cells #[.int .i64 (el l k).1, .slice a1 (el l k).2.length cp1] 58)) := HS1.below ((Below.refl _ _).alloc s1 _) hbw
      have HS3 : HeldC w.heap.size b off n cap k vo va (el l k).1 w3 := HS1.below B3 hbw
      generalize hgl : (l.take k ++ [el l k]).length = q at *
      clear hgl hc g0 g1 hA hra hown ho1 ho1' ho3 B1 B3 B13 hg1 hg1' hb b0 b1 b2
      generalize el l k = p at *
      go_wp2
      refine region_anyL (HeldC w.heap.size b off n cap k vo va p.1) 19 (by kernel_rfl) ?_
      refine anyL_tk (i := 0) (v := ?v0_1) aZ0 (by kernel_rfl) ?y0_1 HS ?r0_1
      case y0_1 => intro wx hx; obtain ⟨h1, h2, h3, h4⟩ := hx; go_simp; try (with_reducible rfl)
      simp only [Act.put, List.setIfInBounds_toArray, List.set_cons_zero, List.set_cons_succ]
      refine anyL_tk (i := 1) (v := ?v1_2) aZ1 (by kernel_rfl) ?y1_2 HS ?r1_2
      case y1_2 => intro wx hx; obtain ⟨h1, h2, h3, h4⟩ := hx; go_simp; try (with_reducible rfl)
      simp only [Act.put, List.setIfInBounds_toArray, List.set_cons_zero, List.set_cons_succ]
      refine anyL_tk (i := 2) (v := ?v2_3) aZ2 (by kernel_rfl) ?y2_3 HS ?r2_3
      case y2_3 => intro wx hx; obtain ⟨h1, h2, h3, h4⟩ := hx; go_simp; try (with_reducible rfl)
      simp only [Act.put, List.setIfInBounds_toArray, List.set_cons_zero, List.set_cons_succ]
      refine anyL_tk (i := 3) (v := ?v3_4) aZ3 (by kernel_rfl) ?y3_4 HS ?r3_4
      case y3_4 => intro wx hx; obtain ⟨h1, h2, h3, h4⟩ := hx; go_simp; try (with_reducible rfl)
      simp only [Act.put, List.setIfInBounds_toArray, List.set_cons_zero, List.set_cons_succ]
      refine anyL_tk (i := 4) (v := ?v4_5) aZ4 (by kernel_rfl) ?y4_5 HS ?r4_5
      case y4_5 => intro wx hx; obtain ⟨h1, h2, h3, h4⟩ := hx; go_simp; try (with_reducible rfl)
      simp only [Act.put, List.setIfInBounds_toArray, List.set_cons_zero, List.set_cons_succ]
      refine anyL_tk (i := 5) (v := ?v5_6) aZ5 (by kernel_rfl) ?y5_6 HS ?r5_6
      case y5_6 => intro wx hx; obtain ⟨h1, h2, h3, h4⟩ := hx; go_simp; try (with_reducible rfl)
      simp only [Act.put, List.setIfInBounds_toArray, List.set_cons_zero, List.set_cons_succ]
      refine anyL_tk (i := 6) (v := ?v6_7) aZ6 (by kernel_rfl) ?y6_7 HS ?r6_7
      case y6_7 => intro wx hx; obtain ⟨h1, h2, h3, h4⟩ := hx; go_simp; try (with_reducible rfl)
      simp only [Act.put, List.setIfInBounds_toArray, List.set_cons_zero, List.set_cons_succ]
      refine anyL_tk (i := 7) (v := ?v7_8) aZ7 (by kernel_rfl) ?y7_8 HS ?r7_8
      case y7_8 => intro wx hx; obtain ⟨h1, h2, h3, h4⟩ := hx; go_simp; try (with_reducible rfl)
      simp only [Act.put, List.setIfInBounds_toArray, List.set_cons_zero, List.set_cons_succ]
      refine anyL_tk (i := 8) (v := ?v8_9) aZ8 (by kernel_rfl) ?y8_9 HS ?r8_9
      case y8_9 => intro wx hx; obtain ⟨h1, h2, h3, h4⟩ := hx; go_simp; try (with_reducible rfl)
      simp only [Act.put, List.setIfInBounds_toArray, List.set_cons_zero, List.set_cons_succ]
      refine anyL_tk (i := 9) (v := ?v9_10) aZ9 (by kernel_rfl) ?y9_10 HS ?r9_10
      case y9_10 => intro wx hx; obtain ⟨h1, h2, h3, h4⟩ := hx; go_simp; try (with_reducible rfl)
      simp only [Act.put, List.setIfInBounds_toArray, List.set_cons_zero, List.set_cons_succ]
      refine anyL_tk (i := 10) (v := ?v10_11) aZ10 (by kernel_rfl) ?y10_11 HS ?r10_11
      case y10_11 => intro wx hx; obtain ⟨h1, h2, h3, h4⟩ := hx; go_simp; try (with_reducible rfl)
      simp only [Act.put, List.setIfInBounds_toArray, List.set_cons_zero, List.set_cons_succ]
      refine anyL_tk (i := 11) (v := ?v11_12) aZ11 (by kernel_rfl) ?y11_12 HS ?r11_12
      case y11_12 => intro wx hx; obtain ⟨h1, h2, h3, h4⟩ := hx; go_simp; try (with_reducible rfl)
      simp only [Act.put, List.setIfInBounds_toArray, List.set_cons_zero, List.set_cons_succ]
      refine anyL_tk (i := 12) (v := ?v12_13) aZ12 (by kernel_rfl) ?y12_13 HS ?r12_13
      case y12_13 => intro wx hx; obtain ⟨h1, h2, h3, h4⟩ := hx; go_simp; try (with_reducible rfl)
      simp only [Act.put, List.setIfInBounds_toArray, List.set_cons_zero, List.set_cons_succ]
      refine anyL_tk (i := 13) (v := ?v13_14) aZ13 (by kernel_rfl) ?y13_14 HS ?r13_14
      case y13_14 => intro wx hx; obtain ⟨h1, h2, h3, h4⟩ := hx; go_simp; try (with_reducible rfl)
      simp only [Act.put, List.setIfInBounds_toArray, List.set_cons_zero, List.set_cons_succ]
      refine anyL_one (i := 14) aZ14 (by kernel_rfl) rfl (fun K hK => ?_)
      refine wp_append_run (.const (.slice none 0 0)) (.tmp 28) 56 (by rfl) (by rfl) (by rfl) r1 (hK _ _ (.inr HS1) ?_)
      simp only [Act.put, List.setIfInBounds_toArray, List.set_cons_zero, List.set_cons_succ]
      refine anyL_tk (i := 15) (v := ?v15_15) aZ15 (by kernel_rfl) ?y15_15 HS1 ?r15_15
      case y15_15 => intro wx hx; obtain ⟨h1, h2, h3, h4⟩ := hx; go_simp; try (with_reducible rfl)
      simp only [Act.put, List.setIfInBounds_toArray, List.set_cons_zero, List.set_cons_succ]
      refine anyL_one (i := 16) aZ16 (by kernel_rfl) rfl (fun K hK => ?_)
      go_simp
      refine hK _ _ (.inr HS2) ?_
      try simp only [Act.put, List.setIfInBounds_toArray, List.set_cons_zero, List.set_cons_succ]
      refine anyL_one (i := 17) aZ17 (by kernel_rfl) rfl (fun K hK => ?_)
      refine wp_append_run (.tmp 16) (.tmp 31) 22 (by rfl) (by rfl) (by rfl) r3 (hK _ _ (.inr HS3) ?_)
      simp only [Act.put, List.setIfInBounds_toArray, List.set_cons_zero, List.set_cons_succ]
      refine anyL_tk (i := 18) (v := ?v18_16) aZ18 (by kernel_rfl) ?y18_16 HS3 ?r18_16
      case y18_16 => intro wx hx; obtain ⟨h1, h2, h3, h4⟩ := hx; go_simp; try (with_reducible rfl)
      simp only [Act.put, List.setIfInBounds_toArray, List.set_cons_zero, List.set_cons_succ]
      refine anyL_one (i := 19) aZ19 (by kernel_rfl) rfl (fun K hK => ?_)
      go_simp
      refine hK _ _ (.inl rfl) (anyL_done (by kernel_rfl) (NoPanic.normal ?_))
      try simp only [Act.put, List.setIfInBounds_toArray, List.set_cons_zero, List.set_cons_succ]
      go_wp2
      go_roundw
      case rel => exact ⟨k + 1, _, by omega, by go_num, HN.out.setCell (by show w.heap.size + 1 + 1 < _; omega) _, HD0.out.setO _ _ (by show w.heap.size ≠ w.heap.size + 1 + 1; omega), HD1.out.setO _ _ (by show w.heap.size + 1 ≠ w.heap.size + 1 + 1; omega), HD2.out.set 1 _, by simp; omega, HB.out.setCell (by show _ ≤ w.heap.size + 1 + 1; omega) _⟩
      case measure => simp [intOf]; omega
    · have hke : k = n := by omega
      have HS : Hid (OwnSts wr (w.heap.size + 3) vo l) := by have h := hown; rw [hke, ← hn, List.take_length] at h; exact h
      have hnl : ¬ (k : Int) < (n : Int) := by omega
      have e0 := b1.cell 0 (v := .int .i64 0) rfl
      have e1 := b1.cell 1 (v := .slice none 0 0) rfl
      have e2 := b1.fz 0
      have e3 := b1.fz 1
      obtain ⟨av, cv, rfl⟩ := HS.out.sts.sl
      clear hke hown hc b0 b1 b2
      go_wp2
      exact bodyPost_ret (v := .agg #[.int .i64 z, .slice av l.length cv]) (by simp [results, Try.results9, go_sem, *]) rfl ⟨_, rfl, ⟨_, rfl, ((HS.out.setCell (by show w.heap.size + 1 < _; omega) _).setCell (by show w.heap.size + 1 < _; omega) _).sts⟩, by go_grown⟩
set_option maxRecDepth 100000 in
theorem machine_any (v : Value) (m : Mc) (w : World) (h : Mach w v m) (hok : okM m) :
    Calls Try.prog 9 #[v] w fun e w' => ∃ v', e = .returned v' ∧ Mach w' v' m ∧ Below w.heap.size w w' := by
  obtain ⟨z, l⟩ := m
  obtain ⟨vs, rfl, hS⟩ := h
  by_cases hz : 0 < l.length
  · obtain ⟨b, off, cap, rfl, hb, hc⟩ := hS.plain hz
    exact machine_some z b off cap l w hz hok.1 hok.2 hb hc
  · obtain rfl : l = [] := List.eq_nil_of_length_eq_zero (by omega)
    obtain ⟨a, cap, rfl⟩ := hS.empty
    clear hS
    go_enter Try.func9, Try.ntmps9
    go_wp2
    refine wp_loop_rounds 1 ?_; rw [rounds_succ]
    go_wp2
    exact bodyPost_ret (v := .agg #[.int .i64 z, .slice none 0 0]) (by simp [results, Try.results9, go_sem]) rfl ⟨_, rfl, ⟨_, rfl, [], .inl ⟨rfl, rfl⟩, rfl, by simp⟩, by go_grown⟩
end Go.Proofs.Ytkeeiihaijhdoaa.Wt
