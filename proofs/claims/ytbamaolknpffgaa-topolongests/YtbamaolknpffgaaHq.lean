/- The program: the heap's Push and Pop as methods; what they leave alone. -/
import Derived.Test.YtbamaolknpffgaaHp
namespace Go.Proofs.Ytbamaolknpffgaa.Wt
open Go.ChangeShapes Go.WideShapes Go.ChangeAt Go.RowKit
open Go.Proofs.Ytbamaolknpffgaa.Pl
set_option linter.unusedVariables false
set_option linter.unusedSimpArgs false
/-- Nothing has changed but block b and row r. -/
structure Turn2 (w w' : World) (b : Nat) (r : Option Nat) : Prop where
  os : w'.os = w.os
  tape : w'.tape = w.tape
  output : w'.output = w.output
  size : w.heap.size ≤ w'.heap.size
  block : ∀ k, k < w.heap.size → k ≠ b → some k ≠ r → w'.heap[k]? = w.heap[k]?
theorem Turn2.grown {w w' : World} {r : Option Nat} (h : w.grownBy w' r) (b : Nat) : Turn2 w w' b r := ⟨h.os, h.tape, h.output, h.size, fun k hk _ hne => h.block k hk hne⟩
theorem Turn2.set {w w' : World} {b : Nat} {r : Option Nat} (h : Turn2 w w' b r) (o : Nat) (v : Value) : Turn2 w (w'.setCell ⟨b, o, none⟩ v) b r :=
  ⟨h.os, h.tape, h.output, by simp [World.setCell]; exact h.size, fun k hk hb hne => (Below.heap_setCell w' _ _ k hb).trans (h.block k hk hb hne)⟩
theorem Turn2.trans {w w1 w2 : World} {b : Nat} {r r1 : Option Nat} (h : Turn2 w w1 b r) (k : Turn2 w1 w2 b r1) (hr : r1 = r ∨ ∃ c, r1 = some c ∧ w.heap.size ≤ c) : Turn2 w w2 b r := by
  refine ⟨k.os.trans h.os, k.tape.trans h.tape, k.output.trans h.output, Nat.le_trans h.size k.size, fun i hi hb hne => ?_⟩
  refine (k.block i (Nat.lt_of_lt_of_le hi h.size) hb ?_).trans (h.block i hi hb hne)
  rcases hr with rfl | ⟨c, rfl, hc⟩
  · exact hne
  · intro e; simp at e; omega
theorem Turn2.blk {w w' : World} {b : Nat} {r : Option Nat} (h : Turn2 w w' b r) {k : Nat} {cs : Array Value} {t : TypeId} (hk : Blk w k cs t) (hb : k ≠ b) (hr : some k ≠ r) : Blk w' k cs t := hk.keep (h.block k hk.lt hb hr)
theorem Turn2.row {w w' : World} {b : Nat} {r : Option Nat} (h : Turn2 w w' b r) {base : Nat} {e : TypeId} {s : Nat} {v : Value} {n : Nat} {xs : List Value} (ho : w.ownsRow base e s v n xs) (hb : v.ownBlock ≠ some b) (hr : v.ownBlock = none ∨ v.ownBlock ≠ r) : w'.ownsRow base e s v n xs := by
  refine ⟨ho.1, ?_⟩
  rcases ho.2 with hn | ⟨g, cap, cur, rfl, hbg, hgg, rest⟩
  · exact .inl hn
  · refine .inr ⟨g, cap, cur, rfl, hbg, ?_, rest⟩
    rw [h.block g (Array.getElem?_eq_some_iff.1 hgg).1 (by simpa [Value.ownBlock] using hb) (by simpa [Value.ownBlock] using hr)]
    exact hgg
theorem Turn2.below {w w' : World} {b : Nat} {r : Option Nat} (h : Turn2 w w' b r) {base : Nat} (hb : base ≤ b) (hr : ∀ k, r = some k → base ≤ k) (hs : base ≤ w.heap.size) : Below base w w' :=
  ⟨h.os, h.tape, h.output, h.size, fun k hk => h.block k (by omega) (by omega) (fun e => by have := hr k e.symm; omega)⟩
theorem infoIntH : (Try.prog.info? 3).map (fun i => (i.zero, i.size, i.bytes)) = some (some (.int .i64 0), 1, 8) := by kernel_rfl
theorem assert_int (x : Int) (w : World) : (Instr.typeAssert (.iface 3 (.int .i64 x)) 20 3 false).run Try.prog w = .ok (.int .i64 x) w := by kernel_rfl
def HeldR (B : Nat) (v : Value) (w : World) : Prop := w.cell? ⟨B, 0, none⟩ = some v ∧ w.frozen? ⟨B, 0, none⟩ = false
set_option maxRecDepth 100000 in
set_option maxHeartbeats 2000000 in
theorem rPop_any (B base : Nat) (v : Value) (hs : List Int) (n : Nat) (w : World) (hB : Blk w B #[v] 59) (hown : w.ownsRow base 3 1 v hs.length (hs.flatMap encI1)) (hl : hs.length = n + 1) (hn : n ≤ 1000) :
    Calls Try.prog 68 #[.pointer (some ⟨B, 0, none⟩)] w fun e w' => e = .returned (.iface 3 (.int .i64 (el hs n))) ∧ ∃ v', Blk w' B #[v'] 59 ∧ w'.ownsRow base 3 1 v' n ((hs.take n).flatMap encI1) ∧ v'.ownBlock = v.ownBlock ∧ Turn2 w w' B v.ownBlock := by
  obtain ⟨a, cap, hv⟩ := own_sl hown
  subst hv
  rw [hl] at hown hB
  obtain ⟨g, hga, hnc, hcut⟩ := own_cut (k := n) hown (by omega)
  subst hga
  have c0 := own_num hown (j := n) (by omega)
  have cB := hB.cell 0 (v := .slice (some ⟨g, 0, none⟩) (n + 1) cap) rfl
  have fB := hB.fz 0
  have hne : some B ≠ Value.ownBlock (.slice (some ⟨g, 0, none⟩) n cap) := own_ne hcut hB (by decide)
  have k1 : (0 : Int) ≤ (n : Int) := by omega
  have k2 : (n : Int) < (n : Int) + 1 := by omega
  have k3 : (n : Int) ≤ (cap : Int) := by omega
  have k5 : IntKind.i64.wrap (n : Int) = (n : Int) := wrapI (by omega) (by omega)
  have HO : Hid ((w.setCell ⟨B, 0, none⟩ (.slice (some ⟨g, 0, none⟩) n cap)).ownsRow base 3 1 (.slice (some ⟨g, 0, none⟩) n cap) n ((hs.take n).flatMap encI1)) := hcut.kept (gSet w B 0 _) (.inr (Ne.symm hne))
  have HB : Hid (Blk (w.setCell ⟨B, 0, none⟩ (.slice (some ⟨g, 0, none⟩) n cap)) B #[.slice (some ⟨g, 0, none⟩) n cap] 59) := by have h9 := hB.set 0 (.slice (some ⟨g, 0, none⟩) n cap); exact h9
  have HT : Hid (Turn2 w (w.setCell ⟨B, 0, none⟩ (.slice (some ⟨g, 0, none⟩) n cap)) B (Value.ownBlock (.slice (some ⟨g, 0, none⟩) (n + 1) cap))) := Turn2.set (Turn2.grown (gNew (Below.refl _ _)) B) 0 _
  generalize el hs n = x at *
  rw [hl]
  clear hown hB hcut hne
  go_enter Try.func68, Try.ntmps68
  go_wp2
  go_ret
  exact ⟨rfl, _, HB.out, HO.out, rfl, HT.out⟩
set_option maxRecDepth 100000 in
set_option maxHeartbeats 2000000 in
theorem rPush_any (B base : Nat) (v : Value) (hs : List Int) (q : Int) (w : World) (hB : Blk w B #[v] 59) (hown : w.ownsRow base 3 1 v hs.length (hs.flatMap encI1)) (hbase : base ≤ w.heap.size) (hn : hs.length ≤ 1000) :
    Calls Try.prog 69 #[.pointer (some ⟨B, 0, none⟩), .iface 3 (.int .i64 q)] w fun e w' => e = .returned (.tuple #[]) ∧ ∃ v', Blk w' B #[v'] 59 ∧ w'.ownsRow base 3 1 v' (hs ++ [q]).length ((hs ++ [q]).flatMap encI1) ∧ Near w v.ownBlock v' ∧ Turn2 w w' B v.ownBlock := by
  obtain ⟨i1, hi1, hy0, hy1, hy2⟩ := info_parts infoIntH
  obtain ⟨a, cap, hv⟩ := own_sl hown
  have HV : Hid (v = .slice a hs.length cap) := hv
  have O2 : Hid ((w.drew.alloc (.cells #[.int .i64 q] 3)).ownsRow base 3 1 v hs.length (hs.flatMap encI1)) := World.ownsRow.alloc (w := w.drew) hown _
  have B2 : Hid (Blk (w.drew.alloc (.cells #[.int .i64 q] 3)) B #[v] 59) := hB.drew.alloc _
  obtain ⟨v4, w4, r4, ho4, hg4, hn4⟩ := run_append_spot (P := Try.prog) (w := w.drew.alloc (.cells #[.int .i64 q] 3)) encI1_len (by decide) encI1_one 59 59 base 3 i1 _ 8 Try.underlying59 hi1 hy0 hy1 hy2 rfl _ hs.length (hs.flatMap encI1) O2.out _ [q] (oneRow (enc := encI1) w.drew q rfl 3) (by simp; unfold maxLen; omega) (by simp; omega) (by rw [World.size_alloc]; exact Nat.le_succ_of_le hbase)
  have B4 : Hid (Blk w4 B #[v] 59) := B2.out.grown hg4 (own_ne O2.out B2.out (by decide))
  have hne : some B ≠ v4.ownBlock := own_ne ho4 B4.out (by decide)
  have O5 : Hid ((w4.setCell ⟨B, 0, none⟩ v4).ownsRow base 3 1 v4 (hs ++ [q]).length ((hs ++ [q]).flatMap encI1)) := by
    show World.ownsRow _ _ _ _ _ _ _
    rw [List.length_append, List.flatMap_append]
    exact ho4.kept (gSet w4 B 0 _) (.inr (Ne.symm hne))
  have B5 : Hid (Blk (w4.setCell ⟨B, 0, none⟩ v4) B #[v4] 59) := by have h9 := B4.out.set 0 v4; exact h9
  have N5 : Hid (Near w v.ownBlock v4) := by
    rcases hn4 with e | ⟨b, e, hb⟩
    · exact .inl e
    · exact .inr ⟨b, e, by rw [World.size_alloc] at hb; exact Nat.le_of_succ_le hb⟩
  have T5 : Hid (Turn2 w (w4.setCell ⟨B, 0, none⟩ v4) B v.ownBlock) := by
    have h1 : w.grownBy (w.drew.alloc (.cells #[.int .i64 q] 3)) v.ownBlock := gNew ((Below.refl w.heap.size w).drew.alloc (Nat.le_refl _) _)
    exact Turn2.set (Turn2.grown (gTrans h1 hg4) B) 0 _
  have HS : HeldR B v w.drew := ⟨hB.drew.cell 0 rfl, hB.drew.fz 0⟩
  have HSA : HeldR B v (w.drew.alloc (.cells #[.int .i64 q] 3)) := ⟨B2.out.cell 0 rfl, B2.out.fz 0⟩
  have HS4 : HeldR B v w4 := ⟨B4.out.cell 0 rfl, B4.out.fz 0⟩
  have f4 := B4.out.fz 0
  have c4 := B4.out.cell 0 (v := v) rfl
  have HR4 : Hid _ := r4
  obtain ⟨va4, vc4, hv4⟩ := own_sl ho4
  subst hv4
  rw [hv] at HS HSA HS4 HR4 c4
  clear hown hB ho4 hg4 hn4 r4 hne O2 B2
  obtain ⟨r, hr⟩ : ∃ r, v.ownBlock = r := ⟨_, rfl⟩
  rw [hr] at N5 T5
  rw [hr]
  clear hr HV
  have hta := assert_int
  subst hv
  go_enter Try.func69, Try.ntmps69
  go_wp2
  refine region_anyL (HeldR B (.slice a hs.length cap)) 9 (by kernel_rfl) ?_
  refine anyL_take (i := 0) (v := ?v0_1) at0 (by kernel_rfl) (by kernel_rfl) (by kernel_rfl) (by kernel_rfl) (fun _ _ _ h => h) rfl ?y0_1 HS ?r0_1
  case y0_1 => intro wx hx; obtain ⟨h1, h2⟩ := hx; go_simp; try (with_reducible rfl)
  simp only [Act.put, List.setIfInBounds_toArray, List.set_cons_zero, List.set_cons_succ]
  refine anyL_take (i := 1) (v := ?v1_2) (atS at0) (by kernel_rfl) (by kernel_rfl) (by kernel_rfl) (by kernel_rfl) (fun _ _ _ h => h) rfl ?y1_2 HS ?r1_2
  case y1_2 => intro wx hx; obtain ⟨h1, h2⟩ := hx; go_simp; try (with_reducible rfl)
  simp only [Act.put, List.setIfInBounds_toArray, List.set_cons_zero, List.set_cons_succ]
  refine anyL_take (i := 2) (v := ?v2_3) (atS (atS at0)) (by kernel_rfl) (by kernel_rfl) (by kernel_rfl) (by kernel_rfl) (fun _ _ _ h => h) rfl ?y2_3 HS ?r2_3
  case y2_3 => intro wx hx; obtain ⟨h1, h2⟩ := hx; go_simp; try (with_reducible rfl)
  simp only [Act.put, List.setIfInBounds_toArray, List.set_cons_zero, List.set_cons_succ]
  refine anyL_take (i := 3) (v := ?v3_4) (atS (atS (atS at0))) (by kernel_rfl) (by kernel_rfl) (by kernel_rfl) (by kernel_rfl) (fun _ _ _ h => h) rfl ?y3_4 HS ?r3_4
  case y3_4 => intro wx hx; obtain ⟨h1, h2⟩ := hx; go_simp; try (with_reducible rfl)
  simp only [Act.put, List.setIfInBounds_toArray, List.set_cons_zero, List.set_cons_succ]
  refine anyL_take (i := 4) (v := ?v4_5) (atS (atS (atS (atS at0)))) (by kernel_rfl) (by kernel_rfl) (by kernel_rfl) (by kernel_rfl) (fun _ _ _ h => h) rfl ?y4_5 HS ?r4_5
  case y4_5 => intro wx hx; obtain ⟨h1, h2⟩ := hx; go_simp; try (with_reducible rfl)
  simp only [Act.put, List.setIfInBounds_toArray, List.set_cons_zero, List.set_cons_succ]
  refine anyL_take (i := 5) (v := ?v5_6) (atS (atS (atS (atS (atS at0))))) (by kernel_rfl) (by kernel_rfl) (by kernel_rfl) (by kernel_rfl) (fun _ _ _ h => h) rfl ?y5_6 HS ?r5_6
  case y5_6 => intro wx hx; obtain ⟨h1, h2⟩ := hx; go_simp; try (with_reducible rfl)
  simp only [Act.put, List.setIfInBounds_toArray, List.set_cons_zero, List.set_cons_succ]
  refine anyL_one (i := 6) (atS (atS (atS (atS (atS (atS at0)))))) (by kernel_rfl) rfl (fun K hK => ?_)
  go_simp
  refine hK _ _ (.inr HSA) ?_
  try simp only [Act.put, List.setIfInBounds_toArray, List.set_cons_zero, List.set_cons_succ]
  refine anyL_one (i := 7) (atS (atS (atS (atS (atS (atS (atS at0))))))) (by kernel_rfl) rfl (fun K hK => ?_)
  refine wp_append_run (.tmp 7) (.tmp 10) 59 rfl rfl rfl HR4.out ?_
  refine hK _ _ (.inr HS4) ?_
  try simp only [Act.put, List.setIfInBounds_toArray, List.set_cons_zero, List.set_cons_succ]
  refine anyL_take (i := 8) (v := ?v8_7) (atS (atS (atS (atS (atS (atS (atS (atS at0)))))))) (by kernel_rfl) (by kernel_rfl) (by kernel_rfl) (by kernel_rfl) (fun _ _ _ h => h) rfl ?y8_7 HS4 ?r8_7
  case y8_7 => intro wx hx; obtain ⟨h1, h2⟩ := hx; go_simp; try (with_reducible rfl)
  simp only [Act.put, List.setIfInBounds_toArray, List.set_cons_zero, List.set_cons_succ]
  refine anyL_one (i := 9) (atS (atS (atS (atS (atS (atS (atS (atS (atS at0))))))))) (by kernel_rfl) rfl (fun K hK => ?_)
  go_simp
  refine hK _ _ (.inl rfl) (anyL_done (by kernel_rfl) (NoPanic.normal ?_))
  try simp only [Act.put, List.setIfInBounds_toArray, List.set_cons_zero, List.set_cons_succ]
  clear HS HSA HS4 f4 c4
  go_end0
  exact ⟨rfl, _, B5.out, O5.out, N5.out, T5.out⟩
end Go.Proofs.Ytbamaolknpffgaa.Wt
