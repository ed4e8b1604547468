/- The statement's own copy of a machine. -/
import Derived.Test.YtkeeiihaijhdoaaFaa
import Derived.Test.YtkeeiihaijhdoaaFab
namespace Go.Proofs.Ytkeeiihaijhdoaa.Wt
open Go.ChangeShapes Go.WideShapes Go.ChangeAt Go.RowKit
open Go.Proofs.Ytkeeiihaijhdoaa.Pl
set_option linter.unusedVariables false
set_option linter.unusedSimpArgs false
def OwnSts (w : World) (base : Nat) (v : Value) (l : List St) : Prop :=
 ∃ vs : List (Int × Value), w.ownsRow base 58 2 v vs.length (vs.flatMap encS) ∧ vs.length = l.length ∧ ∀ j, j < l.length → (el vs j).1 = (el l j).1 ∧ w.ownsRow base 75 4 (el vs j).2 (el l j).2.length ((el l j).2.flatMap encA)
theorem OwnSts.nil (w : World) (base : Nat) : OwnSts w base (.slice none 0 0) [] := ⟨[], World.ownsRow_nil _ _ _ _, rfl, by simp⟩
theorem OwnSts.sts {w : World} {base : Nat} {v : Value} {l : List St} (h : OwnSts w base v l) : Sts w v l := by
 obtain ⟨vs, h1, h2, h3⟩ := h
 exact ⟨vs, Row.ofOwn encS_len h1 rfl, h2, fun j hj => ⟨(h3 j hj).1, Row.ofOwn encA_len (h3 j hj).2 rfl⟩⟩
theorem OwnSts.kept {w w' : World} {base : Nat} {v : Value} {l : List St} (h : OwnSts w base v l) (hg : w.grownBy w' none) : OwnSts w' base v l := by
 obtain ⟨vs, h1, h2, h3⟩ := h
 refine ⟨vs, h1.kept hg ?_, h2, fun j hj => ⟨(h3 j hj).1, (h3 j hj).2.kept hg ?_⟩⟩
 ·rcases v.ownBlock with _ | _ <;> simp
 ·rcases (el vs j).2.ownBlock with _ | _ <;> simp
theorem OwnSts.setCell {w : World} {base : Nat} {v : Value} {l : List St} (h : OwnSts w base v l) {a : Addr} (ha : a.block < base) (u : Value) : OwnSts (w.setCell a u) base v l := by
 obtain ⟨vs, h1, h2, h3⟩ := h
 exact ⟨vs, ownsRow_setCell_below h1 ha u, h2, fun j hj => ⟨(h3 j hj).1, ownsRow_setCell_below (h3 j hj).2 ha u⟩⟩
theorem grown_drew {w w' : World} {row : Option Nat} (h : w.drew.grownBy w' row) : w.grownBy w' row := ⟨h.os, h.tape, h.output, h.size, h.block⟩
theorem own_sl {w : World} {base : Nat} {e : TypeId} {s : Nat} {v : Value} {n : Nat} {xs : List Value} (h : w.ownsRow base e s v n xs) : ∃ a c, v = .slice a n c := by
 rcases h.2 with ⟨hv, rfl⟩ | ⟨g, cap, cur, hv, _⟩
 ·exact ⟨_, _, hv⟩
 ·exact ⟨_, _, hv⟩
theorem below_new {w w' : World} {base : Nat} (hs : base ≤ w.heap.size) (hg : w.grownBy w' none) : Below base w w' := (Below.refl _ _).grown hg hs (by simp)
theorem own_zero {w : World} {base : Nat} {e : TypeId} {s : Nat} {v : Value} {n : Nat} {xs : List Value} (h : w.ownsRow base e s v (0 + n) ([] ++ xs)) : w.ownsRow base e s v n xs := by simpa using h
theorem own_one {w : World} {base : Nat} {e : TypeId} {s : Nat} {v : Value} {n : Nat} {xs : List Value} (h : w.ownsRow base e s v n xs) : v.oneCell' = true := by
 rcases h.2 with ⟨hv, _⟩ | ⟨g, cap, cur, hv, _⟩ <;> rw [hv] <;> rfl
theorem run_push {W w1 : World} (s : St) (l : List St) (va vo : Value) (base : Nat)
  (hW : W.heap = w1.heap.push (.cells #[.int .i64 s.1, va] 58)) (hos : W.os = w1.os) (htp : W.tape = w1.tape) (hou : W.output = w1.output)
  (hown : OwnSts w1 base vo l) (hva : w1.ownsRow base 75 4 va s.2.length (s.2.flatMap encA)) (hl : (l.length + 1) * 32 ≤ 140737488355328) (hbase : base ≤ w1.heap.size) :
  ∃ v3 w3, (Builtin.append_ #[22, 22] 22 #[vo, .slice (some ⟨w1.heap.size, 0, none⟩) 1 1]).run Try.prog W = .ok v3 w3 ∧ OwnSts w3 base v3 (l ++ [s]) ∧ Below base w1 w3 := by
 obtain ⟨i1, hi1, hy0, hy1, hy2⟩ := info_parts infoState
 obtain ⟨vs, q1, q2, q3⟩ := hown
 have e1 : ∀ k, k < w1.heap.size → W.heap[k]? = w1.heap[k]? := fun k hk => by rw [hW, Array.getElem?_push_lt hk, Array.getElem?_eq_getElem hk]
 have e0 : W.heap[w1.heap.size]? = some (.cells #[.int .i64 s.1, va] 58 (0, 0)) := by rw [hW]; simp
 have es : W.heap.size = w1.heap.size + 1 := by rw [hW]; simp
 have hg : w1.grownBy W none := ⟨hos, htp, hou, by omega, fun k hk _ => e1 k hk⟩
 have kn : ∀ v : Value, v.ownBlock = none ∨ v.ownBlock ≠ none := fun v => by rcases v.ownBlock with _ | _ <;> simp
 have hvo := q1.kept hg (kn _)
 obtain ⟨v3, w3, hr, h1, h2, _⟩ := run_append_own (P := Try.prog) W base 22 22 58 i1 _ 2 32 Try.underlying22 hi1 hy0 hy1 hy2 rfl (by omega) vo vs.length (vs.flatMap encS) hvo ⟨w1.heap.size, 0, none⟩ 1 1 [.int .i64 s.1, va] rfl (World.news_of_block (cs := #[.int .i64 s.1, va]) e0) (by
  intro u hu
  simp at hu
  rcases hu with rfl | rfl
  ·rfl
  ·exact own_one hva) (by rw [q2]; unfold maxLen; omega) (by rw [q2]; exact hl) (by omega)
 refine ⟨v3, w3, hr, ⟨vs ++ [(s.1, va)], by simpa [encS] using h1, by simp [q2], ?_⟩, ?_⟩
 ·intro j hj
  have hj' : j < l.length ∨ j = l.length := by simp at hj; omega
  rcases hj' with hj' | rfl
  ·rw [el_left (by omega), el_left hj']
   have := (q3 j hj').2.kept hg (kn _)
   exact ⟨(q3 j hj').1, this.kept h2 (own_apart this hvo (by decide))⟩
  ·rw [el_last, ← q2, el_last]
   have := hva.kept hg (kn _)
   exact ⟨rfl, this.kept h2 (own_apart this hvo (by decide))⟩
 ·exact ((Below.refl _ _).grown hg hbase (by simp)).grown h2 (by omega) (own_geK hvo)
theorem blk_a (w : World) (c0 c1 c2 : Array Value) (t : TypeId) : Blk (((w.alloc (.cells c0 t)).alloc (.cells c1 t)).alloc (.cells c2 t)) w.heap.size c0 t := ((Blk.made w c0 t).alloc _).alloc _
theorem blk_b (w : World) (c0 c1 c2 : Array Value) (t : TypeId) : Blk (((w.alloc (.cells c0 t)).alloc (.cells c1 t)).alloc (.cells c2 t)) (w.heap.size + 1) c1 t := by
 have h := Blk.made (w.alloc (.cells c0 t)) c1 t
 simp only [World.size_alloc] at h
 exact h.alloc _
theorem blk_c (w : World) (c0 c1 c2 : Array Value) (t : TypeId) : Blk (((w.alloc (.cells c0 t)).alloc (.cells c1 t)).alloc (.cells c2 t)) (w.heap.size + 2) c2 t := by
 have h := Blk.made ((w.alloc (.cells c0 t)).alloc (.cells c1 t)) c2 t
 simp only [World.size_alloc] at h
 exact h
def HeldC (B b off n cap k : Nat) (vo va : Value) (f : Int) (w : World) : Prop :=
 w.cell? ⟨B, 1, none⟩ = some (.slice (some ⟨b, off, none⟩) n cap) ∧ w.cell? ⟨B + 1 + 1, 1, none⟩ = some vo ∧ w.cell? ⟨b, off + k * 2, none⟩ = some (.int .i64 f) ∧ w.cell? ⟨b, off + k * 2 + 1, none⟩ = some va
theorem HeldC.below {B b off n cap k : Nat} {vo va : Value} {f : Int} {w w' : World} (h : HeldC B b off n cap k vo va f w) (hb : Below (B + 3) w w') (hB : b < B) : HeldC B b off n cap k vo va f w' := by
 obtain ⟨h1, h2, h3, h4⟩ := h
 exact ⟨(hb.cell (show B < _ by omega)).trans h1, (hb.cell (show B + 1 + 1 < _ by omega)).trans h2, (hb.cell (show b < _ by omega)).trans h3, (hb.cell (show b < _ by omega)).trans h4⟩
set_option maxRecDepth 100000 in
set_option maxHeartbeats 3200000 in
theorem machine_some (z : Int) (b off cap : Nat) (l : List St) (w : World) (hz : 0 < l.length) (hr : l.length * 32 ≤ 140737488351232) (hra : ∀ j, j < l.length → (el l j).2.length * 32 ≤ 140737488351232) (hbw : b < w.heap.size)
  (hc : ∀ j, j < l.length → ∃ va, w.cell? ⟨b, off + j * 2, none⟩ = some (.int .i64 (el l j).1) ∧ w.cell? ⟨b, off + j * 2 + 1, none⟩ = some va ∧ Arcs w va (el l j).2) :
  Calls Try.prog 9 #[.agg #[.int .i64 z, .slice (some ⟨b, off, none⟩) l.length cap]] w fun e w' => ∃ v', e = .returned v' ∧ Mach w' v' (z, l) ∧ Below w.heap.size w w' := by
 obtain ⟨i0, hi0, hz0, hz1, hz2⟩ := info_parts infoArc
 generalize hn : l.length = n at *
 go_enter Try.func9, Try.ntmps9
 go_wp2
 go_loopw [4] (fun i wr => ∃ (k : Nat) (vo : Value), k ≤ n ∧ i = .int .i64 k ∧ OwnSts wr (w.heap.size + 3) vo (l.take k) ∧ Blk wr w.heap.size #[.int .i64 z, .slice (some ⟨b, off, none⟩) n cap] 24 ∧ Blk wr (w.heap.size + 1) #[.int .i64 0, .slice none 0 0] 24 ∧ Blk wr (w.heap.size + 2) #[.int .i64 z, vo] 24 ∧ w.heap.size + 3 ≤ wr.heap.size ∧ Below w.heap.size w wr) (fun i _ => n - (intOf i).toNat)
 case atStart => exact ⟨0, .slice none 0 0, Nat.zero_le _, rfl, OwnSts.nil _ _, blk_a _ _ _ _ _, blk_b _ _ _ _ _, blk_c _ _ _ _ _, by simp, by go_grown⟩
 case round =>
  obtain ⟨k, vo, hk, rfl, hown, b0, b1, b2, hs, hb⟩ := hrel
  have c1 := b0.cell 1 (v := .slice (some ⟨b, off, none⟩) n cap) rfl
  have c2 := b2.cell 0 (v := .int .i64 z) rfl
  have c3 := b2.cell 1 (v := vo) rfl
  by_cases hlt : k < n
  ·obtain ⟨va, g0, g1, hA⟩ := hc k hlt
   have G0 := (hb.cell (p := ⟨b, off + k * 2, none⟩) hbw).trans g0
   have G1 := (hb.cell (p := ⟨b, off + k * 2 + 1, none⟩) hbw).trans g1
   have hlt' := hra k hlt
   have hk0 : (0 : Int) ≤ (k : Int) := Int.natCast_nonneg _
   have hk1 : (k : Int) < (n : Int) := by omega
   obtain ⟨v1, w1, r1, ho1, hg1⟩ := run_append_rows (P := Try.prog) (w := wr.drew) encA_len (by decide) encA_one 56 56 (w.heap.size + 3) 75 i0 _ 32 Try.underlying56 hi0 hz0 hz1 hz2 rfl (.slice none 0 0) 0 [] (World.ownsRow_nil _ _ _ _) va (el l k).2 (hA.later hb.drew (Nat.le_refl _)) (by unfold maxLen; omega) (by omega) hs
   have hg1' : wr.grownBy w1 none := grown_drew hg1
   have B1 : Below (w.heap.size + 3) wr w1 := below_new hs hg1'
   have s1 : w.heap.size + 3 ≤ w1.heap.size := Nat.le_trans hs B1.size
   have ho1' := own_zero ho1
   obtain ⟨a1, cp1, rfl⟩ := own_sl ho1'
   obtain ⟨v3, w3, r3, ho3, B3⟩ := run_push (W := w1.alloc (.cells #[.int .i64 (el l k).1, .slice a1 (el l k).2.length cp1] 58)) (el l k) (l.take k) _ vo (w.heap.size + 3) rfl rfl rfl rfl (hown.kept hg1') ho1' (by rw [List.length_take]; omega) s1
   obtain ⟨a3, cp3, rfl⟩ := ho3.sts.sl
   have B13 : Below (w.heap.size + 3) wr w3 := B1.trans B3
   have HD0 : Hid (Blk w3 w.heap.size #[.int .i64 z, .slice (some ⟨b, off, none⟩) n cap] 24) := b0.below B13 (by omega)
   have HD1 : Hid (Blk w3 (w.heap.size + 1) #[.int .i64 0, .slice none 0 0] 24) := b1.below B13 (by omega)
   have HD2 : Hid (Blk w3 (w.heap.size + 2) #[.int .i64 z, vo] 24) := b2.below B13 (by omega)
   have e2 := HD2.out.cell 1 (v := vo) rfl
   have e6 := HD2.out.fz 1
   have HN : Hid (OwnSts w3 (w.heap.size + 3) (.slice a3 (l.take k ++ [el l k]).length cp3) (l.take (k + 1))) := by rw [take_el (by omega)]; exact ho3
   have HB : Hid (Below w.heap.size w w3) := (hb.trans (B1.mono (by omega))).trans (B3.mono (by omega))
   have hs3 : w.heap.size + 3 ≤ w3.heap.size := Nat.le_trans s1 B3.size
   have HS : HeldC w.heap.size b off n cap k vo va (el l k).1 wr.drew := ⟨c1, c3, G0, G1⟩
   have HS1 : HeldC w.heap.size b off n cap k vo va (el l k).1 w1 := HeldC.below (w := wr) ⟨c1, c3, G0, G1⟩ B1 hbw
   have HS2 : HeldC w.heap.size b off n cap k vo va (el l k).1 (w1.alloc (.cells #[.int .i64 (el l k).1, .slice a1 (el l k).2.length cp1] 58)) := HS1.below ((Below.refl _ _).alloc s1 _) hbw
   have HS3 : HeldC w.heap.size b off n cap k vo va (el l k).1 w3 := HS1.below B3 hbw
   generalize hgl : (l.take k ++ [el l k]).length = q at *
   clear hgl hc g0 g1 hA hra hown ho1 ho1' ho3 B1 B3 B13 hg1 hg1' hb b0 b1 b2
   generalize el l k = p at *
   go_wp2
   refine region_anyL (HeldC w.heap.size b off n cap k vo va p.1) 19 (by kernel_rfl) ?_
   refine anyL_tk (i := 0) (v := ?v0_1) aZ0 (by kernel_rfl) ?y0_1 HS ?r0_1
   case y0_1 => intro wx hx; obtain ⟨h1, h2, h3, h4⟩ := hx; go_simp; try (with_reducible rfl)
   simp only [Act.put, List.setIfInBounds_toArray, List.set_cons_zero, List.set_cons_succ]
   refine anyL_tk (i := 1) (v := ?v1_2) aZ1 (by kernel_rfl) ?y1_2 HS ?r1_2
   case y1_2 => intro wx hx; obtain ⟨h1, h2, h3, h4⟩ := hx; go_simp; try (with_reducible rfl)
   simp only [Act.put, List.setIfInBounds_toArray, List.set_cons_zero, List.set_cons_succ]
   refine anyL_tk (i := 2) (v := ?v2_3) aZ2 (by kernel_rfl) ?y2_3 HS ?r2_3
   case y2_3 => intro wx hx; obtain ⟨h1, h2, h3, h4⟩ := hx; go_simp; try (with_reducible rfl)
   simp only [Act.put, List.setIfInBounds_toArray, List.set_cons_zero, List.set_cons_succ]
   refine anyL_tk (i := 3) (v := ?v3_4) aZ3 (by kernel_rfl) ?y3_4 HS ?r3_4
   case y3_4 => intro wx hx; obtain ⟨h1, h2, h3, h4⟩ := hx; go_simp; try (with_reducible rfl)
   simp only [Act.put, List.setIfInBounds_toArray, List.set_cons_zero, List.set_cons_succ]
   refine anyL_tk (i := 4) (v := ?v4_5) aZ4 (by kernel_rfl) ?y4_5 HS ?r4_5
   case y4_5 => intro wx hx; obtain ⟨h1, h2, h3, h4⟩ := hx; go_simp; try (with_reducible rfl)
   simp only [Act.put, List.setIfInBounds_toArray, List.set_cons_zero, List.set_cons_succ]
   refine anyL_tk (i := 5) (v := ?v5_6) aZ5 (by kernel_rfl) ?y5_6 HS ?r5_6
   case y5_6 => intro wx hx; obtain ⟨h1, h2, h3, h4⟩ := hx; go_simp; try (with_reducible rfl)
   simp only [Act.put, List.setIfInBounds_toArray, List.set_cons_zero, List.set_cons_succ]
   refine anyL_tk (i := 6) (v := ?v6_7) aZ6 (by kernel_rfl) ?y6_7 HS ?r6_7
   case y6_7 => intro wx hx; obtain ⟨h1, h2, h3, h4⟩ := hx; go_simp; try (with_reducible rfl)
   simp only [Act.put, List.setIfInBounds_toArray, List.set_cons_zero, List.set_cons_succ]
   refine anyL_tk (i := 7) (v := ?v7_8) aZ7 (by kernel_rfl) ?y7_8 HS ?r7_8
   case y7_8 => intro wx hx; obtain ⟨h1, h2, h3, h4⟩ := hx; go_simp; try (with_reducible rfl)
   simp only [Act.put, List.setIfInBounds_toArray, List.set_cons_zero, List.set_cons_succ]
   refine anyL_tk (i := 8) (v := ?v8_9) aZ8 (by kernel_rfl) ?y8_9 HS ?r8_9
   case y8_9 => intro wx hx; obtain ⟨h1, h2, h3, h4⟩ := hx; go_simp; try (with_reducible rfl)
   simp only [Act.put, List.setIfInBounds_toArray, List.set_cons_zero, List.set_cons_succ]
   refine anyL_tk (i := 9) (v := ?v9_10) aZ9 (by kernel_rfl) ?y9_10 HS ?r9_10
   case y9_10 => intro wx hx; obtain ⟨h1, h2, h3, h4⟩ := hx; go_simp; try (with_reducible rfl)
   simp only [Act.put, List.setIfInBounds_toArray, List.set_cons_zero, List.set_cons_succ]
   refine anyL_tk (i := 10) (v := ?v10_11) aZ10 (by kernel_rfl) ?y10_11 HS ?r10_11
   case y10_11 => intro wx hx; obtain ⟨h1, h2, h3, h4⟩ := hx; go_simp; try (with_reducible rfl)
   simp only [Act.put, List.setIfInBounds_toArray, List.set_cons_zero, List.set_cons_succ]
   refine anyL_tk (i := 11) (v := ?v11_12) aZ11 (by kernel_rfl) ?y11_12 HS ?r11_12
   case y11_12 => intro wx hx; obtain ⟨h1, h2, h3, h4⟩ := hx; go_simp; try (with_reducible rfl)
   simp only [Act.put, List.setIfInBounds_toArray, List.set_cons_zero, List.set_cons_succ]
   refine anyL_tk (i := 12) (v := ?v12_13) aZ12 (by kernel_rfl) ?y12_13 HS ?r12_13
   case y12_13 => intro wx hx; obtain ⟨h1, h2, h3, h4⟩ := hx; go_simp; try (with_reducible rfl)
   simp only [Act.put, List.setIfInBounds_toArray, List.set_cons_zero, List.set_cons_succ]
   refine anyL_tk (i := 13) (v := ?v13_14) aZ13 (by kernel_rfl) ?y13_14 HS ?r13_14
   case y13_14 => intro wx hx; obtain ⟨h1, h2, h3, h4⟩ := hx; go_simp; try (with_reducible rfl)
   simp only [Act.put, List.setIfInBounds_toArray, List.set_cons_zero, List.set_cons_succ]
   refine anyL_one (i := 14) aZ14 (by kernel_rfl) rfl (fun K hK => ?_)
   refine wp_append_run (.const (.slice none 0 0)) (.tmp 28) 56 (by rfl) (by rfl) (by rfl) r1 (hK _ _ (.inr HS1) ?_)
   simp only [Act.put, List.setIfInBounds_toArray, List.set_cons_zero, List.set_cons_succ]
   refine anyL_tk (i := 15) (v := ?v15_15) aZ15 (by kernel_rfl) ?y15_15 HS1 ?r15_15
   case y15_15 => intro wx hx; obtain ⟨h1, h2, h3, h4⟩ := hx; go_simp; try (with_reducible rfl)
   simp only [Act.put, List.setIfInBounds_toArray, List.set_cons_zero, List.set_cons_succ]
   refine anyL_one (i := 16) aZ16 (by kernel_rfl) rfl (fun K hK => ?_)
   go_simp
   refine hK _ _ (.inr HS2) ?_
   try simp only [Act.put, List.setIfInBounds_toArray, List.set_cons_zero, List.set_cons_succ]
   refine anyL_one (i := 17) aZ17 (by kernel_rfl) rfl (fun K hK => ?_)
   refine wp_append_run (.tmp 16) (.tmp 31) 22 (by rfl) (by rfl) (by rfl) r3 (hK _ _ (.inr HS3) ?_)
   simp only [Act.put, List.setIfInBounds_toArray, List.set_cons_zero, List.set_cons_succ]
   refine anyL_tk (i := 18) (v := ?v18_16) aZ18 (by kernel_rfl) ?y18_16 HS3 ?r18_16
   case y18_16 => intro wx hx; obtain ⟨h1, h2, h3, h4⟩ := hx; go_simp; try (with_reducible rfl)
   simp only [Act.put, List.setIfInBounds_toArray, List.set_cons_zero, List.set_cons_succ]
   refine anyL_one (i := 19) aZ19 (by kernel_rfl) rfl (fun K hK => ?_)
   go_simp
   refine hK _ _ (.inl rfl) (anyL_done (by kernel_rfl) (NoPanic.normal ?_))
   try simp only [Act.put, List.setIfInBounds_toArray, List.set_cons_zero, List.set_cons_succ]
   go_wp2
   go_roundw
   case rel => exact ⟨k + 1, _, by omega, by go_num, HN.out.setCell (by show w.heap.size + 1 + 1 < _; omega) _, HD0.out.setO _ _ (by show w.heap.size ≠ w.heap.size + 1 + 1; omega), HD1.out.setO _ _ (by show w.heap.size + 1 ≠ w.heap.size + 1 + 1; omega), HD2.out.set 1 _, by simp; omega, HB.out.setCell (by show _ ≤ w.heap.size + 1 + 1; omega) _⟩
   case measure => simp [intOf]; omega
  ·have hke : k = n := by omega
   have HS : Hid (OwnSts wr (w.heap.size + 3) vo l) := by have h := hown; rw [hke, ← hn, List.take_length] at h; exact h
   have hnl : ¬ (k : Int) < (n : Int) := by omega
   have e0 := b1.cell 0 (v := .int .i64 0) rfl
   have e1 := b1.cell 1 (v := .slice none 0 0) rfl
   have e2 := b1.fz 0
   have e3 := b1.fz 1
   obtain ⟨av, cv, rfl⟩ := HS.out.sts.sl
   clear hke hown hc b0 b1 b2
   go_wp2
   exact bodyPost_ret (v := .agg #[.int .i64 z, .slice av l.length cv]) (by simp [results, Try.results9, go_sem, *]) rfl ⟨_, rfl, ⟨_, rfl, ((HS.out.setCell (by show w.heap.size + 1 < _; omega) _).setCell (by show w.heap.size + 1 < _; omega) _).sts⟩, by go_grown⟩
set_option maxRecDepth 100000 in
theorem machine_any (v : Value) (m : Mc) (w : World) (h : Mach w v m) (hok : okM m) :
  Calls Try.prog 9 #[v] w fun e w' => ∃ v', e = .returned v' ∧ Mach w' v' m ∧ Below w.heap.size w w' := by
 obtain ⟨z, l⟩ := m
 obtain ⟨vs, rfl, hS⟩ := h
 by_cases hz : 0 < l.length
 ·obtain ⟨b, off, cap, rfl, hb, hc⟩ := hS.plain hz
  exact machine_some z b off cap l w hz hok.1 hok.2 hb hc
 ·obtain rfl : l = [] := List.eq_nil_of_length_eq_zero (by omega)
  obtain ⟨a, cap, rfl⟩ := hS.empty
  clear hS
  go_enter Try.func9, Try.ntmps9
  go_wp2
  refine wp_loop_rounds 1 ?_; rw [rounds_succ]
  go_wp2
  exact bodyPost_ret (v := .agg #[.int .i64 z, .slice none 0 0]) (by simp [results, Try.results9, go_sem]) rfl ⟨_, rfl, ⟨_, rfl, [], .inl ⟨rfl, rfl⟩, rfl, by simp⟩, by go_grown⟩
end Go.Proofs.Ytkeeiihaijhdoaa.Wt
namespace Go.Proofs.Ytkeeiihaijhdoaa.Wt
open Go.ChangeShapes Go.WideShapes Go.ChangeAt Go.RowKit
open Go.Proofs.Ytkeeiihaijhdoaa.Pl
set_option linter.unusedVariables false
theorem ownMono {w : World} {base base' : Nat} {e : TypeId} {s : Nat} {v : Value} {n : Nat} {xs : List Value} (h : w.ownsRow base e s v n xs) (hb : base' ≤ base) : w.ownsRow base' e s v n xs := by
 refine ⟨h.1, ?_⟩
 rcases h.2 with h2 | ⟨g, cap, cur, hv, hg, h3⟩
 ·exact .inl h2
 ·exact .inr ⟨g, cap, cur, hv, Nat.le_trans hb hg, h3⟩
theorem grownBelow {w w' : World} (hb : Below w.heap.size w w') : w.grownBy w' none := ⟨hb.os, hb.tape, hb.output, hb.size, fun k hk _ => hb.block k hk⟩
theorem ownBelow {w w' : World} {base : Nat} {e : TypeId} {s : Nat} {v : Value} {n : Nat} {xs : List Value} (h : w.ownsRow base e s v n xs) (hb : Below w.heap.size w w') : w'.ownsRow base e s v n xs :=
 h.kept (grownBelow hb) (by rcases v.ownBlock with _ | _ <;> simp)
theorem oneRow {α : Type} [Inhabited α] {k : Nat} {enc : α → List Value} (w : World) (p : α) (hk : (enc p).length = k) (t : TypeId) : Row k enc (w.alloc (.cells (enc p).toArray t)) (.slice (some ⟨w.heap.size, 0, none⟩) 1 1) [p] := by
 refine .inr ⟨⟨w.heap.size, 0, none⟩, 1, rfl, fun j hj i u hu => ?_⟩
 have hj0 : j = 0 := by simp at hj; exact hj
 subst hj0
 rw [Addr.add_lit]
 refine (Blk.made w _ _).cell _ ?_
 rw [Nat.zero_mul, Nat.zero_add, Nat.zero_add]
 rw [el_zero] at hu
 simpa using hu
theorem wpListAppendRun {P : Program} {ops : Array Oper} {Q : Exit → Act → World → Prop} {rest : List Oper} {o : Oper} {a : Act} {w w' : World} {v1 v2 v3 : Value} (hgd : o.guard = none) (x y : Operand) (t : TypeId) (ho : o.op = .call { callee := .builtin .append, args := #[x, y], argTypes := #[t, t] }) (hx : a.eval x = v1) (hy : a.eval y = v2)
  (hr : (Builtin.append_ #[t, t] o.type #[v1, v2]).run P w = .ok v3 w') (h : wpList P ops Q rest (a.put o.dst v3) w') : wpList P ops Q (o :: rest) a w :=
 wpList_plain hgd fun _ hK => wp_append_run x y t ho hx hy hr (hK _ _ h)
theorem boxedTwo {w w1 : World} {c0 c1 : Array Value} {t0 t1 : TypeId} {n : Nat} (hb : Below n ((w.alloc (.cells c0 t0)).alloc (.cells c1 t1)) w1) (hn : n = w.heap.size + 2) : w.heap.size + 2 ≤ w1.heap.size ∧ Blk w1 w.heap.size c0 t0 ∧ Blk w1 (w.heap.size + 1) c1 t1 ∧ Below w.heap.size w w1 := by
 subst hn
 have h := hb.size
 simp only [World.size_alloc] at h
 have k1 := Blk.made (w.alloc (.cells c0 t0)) c1 t1
 simp only [World.size_alloc] at k1
 exact ⟨h, ((Blk.made w c0 t0).alloc _).below hb (by omega), k1.below hb (by omega), (((Below.refl _ _).alloc (Nat.le_refl _) _).alloc (by simp) _).trans (hb.mono (by omega))⟩
def Near (w : World) (r : Option Nat) (v : Value) : Prop := v.ownBlock = r ∨ ∃ b, v.ownBlock = some b ∧ w.heap.size ≤ b
theorem gTrans {a b c : World} {r : Option Nat} (h : a.grownBy b r) (k : b.grownBy c r) : a.grownBy c r := ⟨k.os.trans h.os, k.tape.trans h.tape, k.output.trans h.output, Nat.le_trans h.size k.size, fun i hi hne => (k.block i (Nat.lt_of_lt_of_le hi h.size) hne).trans (h.block i hi hne)⟩
theorem gNew {a b : World} {r : Option Nat} (hb : Below a.heap.size a b) : a.grownBy b r := ⟨hb.os, hb.tape, hb.output, hb.size, fun k hk _ => hb.block k hk⟩
theorem gSet (w : World) (b o : Nat) (v : Value) : w.grownBy (w.setCell ⟨b, o, none⟩ v) (some b) := ⟨rfl, rfl, rfl, by simp [World.setCell], fun k _ hne => Below.heap_setCell w _ _ k (by intro e; exact hne (by rw [e]))⟩
theorem gSetNew {a b : World} {r : Option Nat} (h : a.grownBy b r) {g : Nat} (hg : a.heap.size ≤ g) (o : Nat) (v : Value) : a.grownBy (b.setCell ⟨g, o, none⟩ v) r := ⟨h.os, h.tape, h.output, by simp [World.setCell]; exact h.size, fun k hk hne => (Below.heap_setCell b _ _ k (by show k ≠ g; omega)).trans (h.block k hk hne)⟩
theorem gBelow {a b : World} {r : Option Nat} {base : Nat} (h : a.grownBy b r) (hr : ∀ k, r = some k → base ≤ k) (hs : base ≤ a.heap.size) : Below base a b := (Below.refl _ _).grown h hs hr
theorem run_append_spot {α : Type} [Inhabited α] {k : Nat} {enc : α → List Value} {P : Program} {w : World} (hk : ∀ x, (enc x).length = k) (hk0 : 0 < k) (h1c : ∀ x, ∀ u ∈ enc x, u.oneCell' = true) (t ty : TypeId)
  (base : Nat) (e : TypeId) (i : TypeInfo) (z : Value) (bytes : Nat) (ht : P.underlying t = some (.slice e)) (hi : P.info? e = some i) (hz : i.zero = some z)
  (hsize : i.size = k) (hby : i.bytes = bytes) (hzs : z.cells.size = k)
  (v : Value) (n : Nat) (ms : List Value) (hown : w.ownsRow base e k v n ms) (vx : Value) (ns : List α) (hX : Row k enc w vx ns)
  (h63 : n + ns.length ≤ maxLen) (hbytes : (n + ns.length) * bytes ≤ 140737488355328) (hbase : base ≤ w.heap.size) :
  ∃ v' w', (Builtin.append_ #[t, t] ty #[v, vx]).run P w = .ok v' w' ∧ w'.ownsRow base e k v' (n + ns.length) (ms ++ ns.flatMap enc) ∧ w.grownBy w' v.ownBlock ∧ Near w v.ownBlock v' := by
 obtain ⟨v', w', hr, h2, h3⟩ := run_append_rows hk hk0 h1c t ty base e i z bytes ht hi hz hsize hby hzs v n ms hown vx ns hX h63 hbytes hbase
 refine ⟨v', w', hr, h2, h3, ?_⟩
 have hX0 := hX
 rcases hX with ⟨hv, hzs0⟩ | ⟨ad, cap, hv, hc⟩
 ·subst hv
  have h := run_append_owned_none (P := P) (w := w) base t ty e i k ht hi v n ms hown
  rw [hr] at h
  simp only [Result.ok.injEq] at h
  rw [h.1]
  exact .inl rfl
 ·have hown0 := hown
  rcases hown.2 with ⟨rfl, rfl⟩ | ⟨g, cap', cur, rfl, hbg, hg, hnc, hcm, hcs, htake⟩
  ·have hms : ms = [] := List.eq_nil_of_length_eq_zero (by simpa using hown.1)
   subst hms
   obtain ⟨v2, w2, hr2, h22, _⟩ := run_append_rows (w := w) hk hk0 h1c t ty w.heap.size e i z bytes ht hi hz hsize hby hzs (.slice none 0 0) 0 [] (World.ownsRow_nil _ _ _ _) vx ns hX0 h63 hbytes (Nat.le_refl _)
   rw [hr] at hr2
   simp only [Result.ok.injEq] at hr2
   rw [hr2.1]
   rcases h22.2 with ⟨rfl, _⟩ | ⟨g, c, cu, rfl, hb, _⟩
   ·exact .inl rfl
   ·exact .inr ⟨g, rfl, hb⟩
  ·subst hv
   subst hsize
   by_cases hroom : n + ns.length ≤ cap'
   ·have hl : (ns.flatMap enc).length = ns.length * i.size := flat_length hk ns
    have h := run_append_room (P := P) w t ty e i ht hi g n cap' cur hg ad ns.length cap (ns.flatMap enc) hl (row_news hk hk0 hc) (by
     intro u hu
     simp only [List.mem_flatMap] at hu
     obtain ⟨y, _, hy⟩ := hu
     exact h1c y u hy) hroom (by rw [hl, hcs, ← Nat.add_mul]; exact Nat.mul_le_mul_right _ hroom)
    rw [hr] at h
    simp only [Result.ok.injEq] at h
    rw [h.1]
    exact .inl rfl
   ·have h := run_append_grow (P := P) w t ty e i z ht hi hz ⟨g, 0, none⟩ n cap' ms hown.1 (hown.cells (g := g) rfl) ad ns.length cap (ns.flatMap enc) (flat_length hk ns) (row_news hk hk0 hc) (by omega) (by unfold maxLen at h63; omega) (by rw [hby]; exact growslice_fits (by omega) hbytes)
    rw [hr] at h
    simp only [Result.ok.injEq] at h
    rw [h.1]
    exact .inr ⟨_, rfl, Nat.le_refl _⟩
theorem own_ne {w : World} {base : Nat} {e t : TypeId} {s : Nat} {v : Value} {n : Nat} {xs : List Value} (h : w.ownsRow base e s v n xs) {b : Nat} {cs : Array Value} (hb : Blk w b cs t) (hne : e ≠ t) : some b ≠ v.ownBlock := by
 rcases h.2 with ⟨rfl, _⟩ | ⟨g, cap', cur, rfl, hbg, hg, _⟩
 ·simp [Value.ownBlock]
 ·simp only [Value.ownBlock]
  intro e2
  simp at e2
  subst e2
  unfold Blk at hb
  rw [hg] at hb
  simp at hb
  exact hne hb.2
end Go.Proofs.Ytkeeiihaijhdoaa.Wt
namespace Go.Proofs.Ytkeeiihaijhdoaa.Wt
open Go.ChangeShapes Go.WideShapes Go.ChangeAt Go.RowKit
open Go.Proofs.Ytkeeiihaijhdoaa.Pl
set_option linter.unusedVariables false
set_option linter.unusedSimpArgs false
theorem hidP {p : Prop} (h : p) : Hid p := h
theorem boxedThree {w w1 : World} {c0 c1 c2 : Array Value} {t0 t1 t2 : TypeId} {n : Nat} (hb : Below n (((w.alloc (.cells c0 t0)).alloc (.cells c1 t1)).alloc (.cells c2 t2)) w1) (hn : n = w.heap.size + 3) : w.heap.size + 3 ≤ w1.heap.size ∧ Blk w1 w.heap.size c0 t0 ∧ Blk w1 (w.heap.size + 1) c1 t1 ∧ Blk w1 (w.heap.size + 2) c2 t2 ∧ Below w.heap.size w w1 := by
 subst hn
 have h := hb.size
 simp only [World.size_alloc] at h
 have k1 := Blk.made (w.alloc (.cells c0 t0)) c1 t1
 have k2 := Blk.made ((w.alloc (.cells c0 t0)).alloc (.cells c1 t1)) c2 t2
 simp only [World.size_alloc] at k1 k2
 exact ⟨h, (((Blk.made w c0 t0).alloc _).alloc _).below hb (by omega), (k1.alloc _).below hb (by omega), k2.below hb (by omega), ((((Below.refl _ _).alloc (Nat.le_refl _) _).alloc (by simp) _).alloc (by simp; omega) _).trans (hb.mono (by omega))⟩
theorem row_nums {w : World} {a : Option Addr} {len cap : Nat} {zs : List Int} (h : IsRow .i64 w a len cap zs) : Nums w (.slice a len cap) (zs.take len) ∧ (zs.take len).length = len ∧ len ≤ cap := by
  rcases h with ⟨rfl, rfl, rfl, rfl⟩ | ⟨x, rfl, h1, h2, h3, h4, h5⟩
  · exact ⟨.inl ⟨rfl, rfl⟩, rfl, Nat.le_refl _⟩
  · have hl : (zs.take len).length = len := by rw [List.length_take]; omega
    refine ⟨.inr ⟨x, cap, by rw [hl], fun j hj i u hu => ?_⟩, hl, h1⟩
    match i, hu with
    | 0, hu =>
      simp [encI1] at hu
      subst hu
      rw [hl] at hj
      rw [Nat.mul_one, Nat.add_zero, h4 j (by omega)]
      have h6 : j < zs.length := by omega
      simp [el, List.getElem?_take, hj, h6, List.getD_eq_getElem?_getD]
    | i + 1, hu => simp [encI1] at hu
end Go.Proofs.Ytkeeiihaijhdoaa.Wt
