/- The statement StreamEnds: whatever machine and run are given, the program's End and the document's answer agree and neither argument is changed, for every input and without any condition. -/
import Derived.Test.YtkeeiihaijhdoaaSkf
import Derived.Test.YtkeeiihaijhdoaaSkk
import Derived.Test.YtkeeiihaijhdoaaMcO
import Derived.Test.YtkeeiihaijhdoaaMcC
import Derived.Lib.SmallJoins
import Derived.ChangeOld
import Derived.Below
namespace Go.Proofs.Ytkeeiihaijhdoaa.streamEnds
open Go.ChangeShapes Go.WideShapes Go.ChangeAt Go.RowKit
open Go.Proofs.Ytkeeiihaijhdoaa.Pl Go.Proofs.Ytkeeiihaijhdoaa.Wt Go.Proofs.Ytkeeiihaijhdoaa.Sm
set_option linter.unusedVariables false
theorem endK_len {F : Int → Int} {acc : Option Ky} {k : Mk} {B : Nat} (ha : ∀ b, acc = some b → b.2.length ≤ B) (hk : k.2.2.length ≤ B) : ∀ b, endK F acc k = some b → b.2.length ≤ B := by
  intro b h
  unfold endK at h
  by_cases hF : F k.1 = 1000000001
  · rw [if_pos hF] at h; exact ha b h
  · rw [if_neg hF] at h
    rcases acc with _ | c
    · simp at h; rw [← h]; exact hk
    · simp only at h
      by_cases hb : betB (k.2.1 + F k.1, k.2.2) c = true
      · rw [if_pos hb, Option.some.injEq] at h; rw [← h]; exact hk
      · rw [if_neg hb] at h; exact ha b h
theorem endF_len {F : Int → Int} {B : Nat} : ∀ {l : List Mk} {acc : Option Ky}, (∀ b, acc = some b → b.2.length ≤ B) → (∀ k ∈ l, k.2.2.length ≤ B) → ∀ b, l.foldl (endK F) acc = some b → b.2.length ≤ B
  | [], _, ha, _, b, h => ha b h
  | k :: l, acc, ha, hl, b, h => endF_len (acc := endK F acc k) (endK_len ha (hl k List.mem_cons_self)) (fun j hj => hl j (List.mem_cons_of_mem _ hj)) b h
theorem endL_len {F : Int → Int} {l : List Mk} {B : Nat} {b : Ky} (h : endL F l = some b) (hl : ∀ j, j < l.length → (el l j).2.2.length ≤ B) : b.2.length ≤ B := by
  refine endF_len (acc := none) (by simp) (fun k hk => ?_) b h
  obtain ⟨j, hj, rfl⟩ := List.getElem_of_mem hk
  rw [← el_get hj]
  exact hl j hj
theorem own : ownKnob Try.prog.godebug = none := by kernel_rfl
theorem laidOut : laidOutB Try.prog = true := by kernel_rfl
def HeldMR (b d : Nat) (x0 x1 y0 y1 : Value) (w : World) : Prop := w.cell? ⟨b, 0, none⟩ = some x0 ∧ w.cell? ⟨b, 1, none⟩ = some x1 ∧ w.cell? ⟨d, 0, none⟩ = some y0 ∧ w.cell? ⟨d, 1, none⟩ = some y1
set_option maxRecDepth 100000 in
set_option maxHeartbeats 4000000 in
theorem walk (v : Value) (m : Mc) (vr : Value) (r : Ru) (w : World) (h : Mach w v m ∧ okM m ∧ (Lit.int .i64 m.1).wf = true ∧ ∀ s ∈ m.2, (Lit.int .i64 s.1).wf = true ∧ ∀ a ∈ s.2, wfA a)
    (hr : RunV w vr r ∧ okU r ∧ (Lit.int .i64 r.1).wf = true ∧ ∀ k ∈ r.2, (Lit.int .i64 k.1).wf = true ∧ (Lit.int .i64 k.2.1).wf = true ∧ ∀ x ∈ k.2.2, (Lit.int .i64 x).wf = true) :
    Calls Try.prog 5 #[v, vr] w fun e w' => e = .returned (.bool true) ∧ Below w.heap.size w w' := by
  obtain ⟨h, hok, _⟩ := h
  obtain ⟨hr, hou, _⟩ := hr
  have HI := hidP h
  have HK := hidP hok
  have HR := hidP hr
  have HO := hidP hou
  have HP : Hid (∀ W v vr, Mach W v m → RunV W vr r → Calls Try.prog 19 #[v, vr] W fun e w' => EndRes (endA m r) W e w') := fun W v vr h1 h2 => endP_any v vr m r W h1 hok h2 hou
  have HRf : Hid (∀ W v vr, Mach W v m → RunV W vr r → Calls Try.prog 20 #[v, vr] W fun e w' => EndRes (endA m r) W e w') := fun W v vr h1 h2 => endR_any v vr m r W h1 hok h2 hou
  have HLn : Hid ((endA m r).1.length ≤ 17592186044416) := by
    show _ ≤ _
    by_cases hx : chkA m r = 0
    · rw [endA_ok hx]
      rcases hacc : endL (finS m) r.2 with _ | k
      · simp
      · by_cases hk : 1000000000 < k.1
        · simp [hk]
        · simp only [if_neg hk]
          have := endL_len hacc (B := 17592186044416) (fun j hj => by have := hou.2 j hj; omega)
          exact this
    · rw [endA_bad hx]; simp
  obtain ⟨vs, rfl, hS⟩ := h
  obtain ⟨a, cap, rfl⟩ := hS.sl
  obtain ⟨vm, rfl, hMk⟩ := hr
  obtain ⟨am, cm, rfl⟩ := hMk.sl
  clear hS hok hou hMk
  generalize hE : endA m r = E at *
  clear hE
  have HU : Hid (Below w.heap.size w ((w.alloc (.cells #[.int .i64 m.1, .slice a m.2.length cap] 24)).alloc (.cells #[.int .i64 r.1, .slice am r.2.length cm] 28))) := by show Below _ _ _; go_grown
  go_enter Try.func5, Try.ntmps5
  go_wp2_with (first
    | (go_at_call 14; (with_reducible refine (runs_any _ r _ (HR.out.later HU.out (Nat.le_refl _)) HO.out).mono ?_); rintro e w1 ⟨v1, rfl, hq, hb⟩; have HQ := hidP hq; obtain ⟨vm1, rfl, hMk⟩ := hq; obtain ⟨a1, c1, rfl⟩ := hMk.sl; clear hMk; obtain ⟨s1, b1, b2, hb1⟩ := boxedTwo hb (by simp); have BM := hidP b1; have BR := hidP b2; have HB1 := hidP hb1; clear hb hb1 b1 b2))
  have HW1 : Hid (Below w1.heap.size w1 (w1.alloc (.cells #[.int .i64 r.1, .slice a1 r.2.length c1] 28))) := by show Below _ _ _; go_grown
  have HWW : Hid (Below w.heap.size w (w1.alloc (.cells #[.int .i64 r.1, .slice a1 r.2.length c1] 28)).drew) := HB1.out.trans (HW1.out.drew.mono HB1.out.size)
  have BM2 := hidP ((BM.out.alloc (.cells #[.int .i64 r.1, .slice a1 r.2.length c1] 28)).drew)
  have BR2 := hidP ((BR.out.alloc (.cells #[.int .i64 r.1, .slice a1 r.2.length c1] 28)).drew)
  have BC2 := hidP ((Blk.made w1 #[.int .i64 r.1, .slice a1 r.2.length c1] 28).drew)
  have HQ2 : Hid (RunV (w1.alloc (.cells #[.int .i64 r.1, .slice a1 r.2.length c1] 28)).drew (.agg #[.int .i64 r.1, .slice a1 r.2.length c1]) r) := HQ.out.later HW1.out.drew (Nat.le_refl _)
  have hz2 : w1.heap.size + 1 = (w1.alloc (.cells #[.int .i64 r.1, .slice a1 r.2.length c1] 28)).drew.heap.size := by simp
  have HS : HeldMR w.heap.size w1.heap.size (.int .i64 m.1) (.slice a m.2.length cap) (.int .i64 r.1) (.slice a1 r.2.length c1) (w1.alloc (.cells #[.int .i64 r.1, .slice a1 r.2.length c1] 28)).drew := ⟨BM2.out.cell 0 rfl, BM2.out.cell 1 rfl, BC2.out.cell 0 rfl, BC2.out.cell 1 rfl⟩
  refine region_anyL (HeldMR w.heap.size w1.heap.size (.int .i64 m.1) (.slice a m.2.length cap) (.int .i64 r.1) (.slice a1 r.2.length c1)) 100 (by kernel_rfl) ?_
  generalize (w1.alloc (.cells #[.int .i64 r.1, .slice a1 r.2.length c1] 28)).drew = W2 at *
  refine anyL_tk (i := 0) (v := ?v0_1) aZ0 (by kernel_rfl) ?y0_1 HS ?r0_1
  case y0_1 => intro wx hx; obtain ⟨h0, h1, h2, h3⟩ := hx; go_simp; try (with_reducible rfl)
  simp only [Act.put, List.setIfInBounds_toArray, List.set_cons_zero, List.set_cons_succ]
  refine anyL_tk (i := 2) (v := ?v2_2) aZ2 (by kernel_rfl) ?y2_2 HS ?r2_2
  case y2_2 => intro wx hx; obtain ⟨h0, h1, h2, h3⟩ := hx; go_simp; try (with_reducible rfl)
  simp only [Act.put, List.setIfInBounds_toArray, List.set_cons_zero, List.set_cons_succ]
  refine anyL_one (i := 1) aZ1 (by kernel_rfl) rfl (fun K hK => ?_)
  go_simp
  with_reducible refine (machine_any _ m _ (HI.out.later HWW.out (Nat.le_refl _)) HK.out).mono ?_
  rintro e w3 ⟨v3, rfl, hi, hb3⟩
  have HI3 := hidP hi
  have HB3 : Hid (Below W2.heap.size W2 w3) := hb3
  have HB3' : Hid (Below w.heap.size w w3) := HWW.out.trans (hb3.mono HWW.out.size)
  have HS3 : HeldMR w.heap.size w1.heap.size (.int .i64 m.1) (.slice a m.2.length cap) (.int .i64 r.1) (.slice a1 r.2.length c1) w3 := ⟨(BM2.out.below hb3 BM2.out.lt).cell 0 rfl, (BM2.out.below hb3 BM2.out.lt).cell 1 rfl, (BC2.out.below hb3 BC2.out.lt).cell 0 rfl, (BC2.out.below hb3 BC2.out.lt).cell 1 rfl⟩
  obtain ⟨vs3, rfl, hS3⟩ := hi
  obtain ⟨a3, cap3, rfl⟩ := hS3.sl
  clear hS3 hb3
  refine hK _ _ (.inr HS3) ?_
  try simp only [Act.put, List.setIfInBounds_toArray, List.set_cons_zero, List.set_cons_succ]
  refine anyL_one (i := 3) aZ3 (by kernel_rfl) rfl (fun K hK => ?_)
  go_simp
  with_reducible refine (HP.out _ _ _ HI3.out (HQ2.out.later HB3.out (Nat.le_refl _))).mono ?_
  rintro e w4 ⟨v4, rfl, hn4, hb4⟩
  have HB4 : Hid (Below W2.heap.size W2 w4) := HB3.out.trans (hb4.mono HB3.out.size)
  have HB4' : Hid (Below w.heap.size w w4) := HB3'.out.trans (hb4.mono HB3'.out.size)
  have HN4 := hidP hn4
  obtain ⟨a4, cap4, rfl⟩ := Row.sl hn4
  have BM4 := hidP (BM2.out.below HB4.out BM2.out.lt)
  have BR4 := hidP (BR2.out.below HB4.out BR2.out.lt)
  have BC4 := hidP (BC2.out.below HB4.out BC2.out.lt)
  have HS4 : HeldMR w.heap.size w1.heap.size (.int .i64 m.1) (.slice a m.2.length cap) (.int .i64 r.1) (.slice a1 r.2.length c1) w4 := ⟨BM4.out.cell 0 rfl, BM4.out.cell 1 rfl, BC4.out.cell 0 rfl, BC4.out.cell 1 rfl⟩
  clear hn4 hb4
  refine hK _ _ (.inr HS4) ?_
  try simp only [Act.put, List.setIfInBounds_toArray, List.set_cons_zero, List.set_cons_succ]
  refine anyL_tk (i := 4) (v := ?v4_3) aZ4 (by kernel_rfl) ?y4_3 HS4 ?r4_3
  case y4_3 => intro wx hx; obtain ⟨h0, h1, h2, h3⟩ := hx; go_simp; try (with_reducible rfl)
  simp only [Act.put, List.setIfInBounds_toArray, List.set_cons_zero, List.set_cons_succ]
  refine anyL_tk (i := 5) (v := ?v5_4) aZ5 (by kernel_rfl) ?y5_4 HS4 ?r5_4
  case y5_4 => intro wx hx; obtain ⟨h0, h1, h2, h3⟩ := hx; go_simp; try (with_reducible rfl)
  simp only [Act.put, List.setIfInBounds_toArray, List.set_cons_zero, List.set_cons_succ]
  refine anyL_tk (i := 6) (v := ?v6_5) aZ6 (by kernel_rfl) ?y6_5 HS4 ?r6_5
  case y6_5 => intro wx hx; obtain ⟨h0, h1, h2, h3⟩ := hx; go_simp; try (with_reducible rfl)
  simp only [Act.put, List.setIfInBounds_toArray, List.set_cons_zero, List.set_cons_succ]
  refine anyL_tk (i := 7) (v := ?v7_6) aZ7 (by kernel_rfl) ?y7_6 HS4 ?r7_6
  case y7_6 => intro wx hx; obtain ⟨h0, h1, h2, h3⟩ := hx; go_simp; try (with_reducible rfl)
  simp only [Act.put, List.setIfInBounds_toArray, List.set_cons_zero, List.set_cons_succ]
  refine anyL_tk (i := 8) (v := ?v8_7) aZ8 (by kernel_rfl) ?y8_7 HS4 ?r8_7
  case y8_7 => intro wx hx; obtain ⟨h0, h1, h2, h3⟩ := hx; go_simp; try (with_reducible rfl)
  simp only [Act.put, List.setIfInBounds_toArray, List.set_cons_zero, List.set_cons_succ]
  refine anyL_tk (i := 9) (v := ?v9_8) aZ9 (by kernel_rfl) ?y9_8 HS4 ?r9_8
  case y9_8 => intro wx hx; obtain ⟨h0, h1, h2, h3⟩ := hx; go_simp; try (with_reducible rfl)
  simp only [Act.put, List.setIfInBounds_toArray, List.set_cons_zero, List.set_cons_succ]
  refine anyL_tk (i := 10) (v := ?v10_9) aZ10 (by kernel_rfl) ?y10_9 HS4 ?r10_9
  case y10_9 => intro wx hx; obtain ⟨h0, h1, h2, h3⟩ := hx; go_simp; try (with_reducible rfl)
  simp only [Act.put, List.setIfInBounds_toArray, List.set_cons_zero, List.set_cons_succ]
  refine anyL_done (by kernel_rfl) (NoPanic.normal ?_)
  try simp only [Act.put, List.setIfInBounds_toArray, List.set_cons_zero, List.set_cons_succ]
  have c0 := BM4.out.cell 0 (v := .int .i64 m.1) rfl
  have c1' := BM4.out.cell 1 (v := .slice a m.2.length cap) rfl
  have c2 := BR4.out.cell 0 (v := .int .i64 r.1) rfl
  have c3 := BR4.out.cell 1 (v := .slice am r.2.length cm) rfl
  have e1 : (E.2.1 == E.2.1) = true := by simp
  have e2 : (E.2.2 == E.2.2) = true := by simp
  clear HS HS3 HS4
  go_wp2_with (first
    | (go_at_call 20; (with_reducible refine (HRf.out _ _ _ (HI.out.later HB4'.out (Nat.le_refl _)) (HR.out.later HB4'.out (Nat.le_refl _))).mono ?_); rintro e w5 ⟨v5, rfl, hn5, hb5⟩; have HN5 := hidP hn5; obtain ⟨a5, cap5, rfl⟩ := Row.sl hn5; have HN45 := hidP (HN4.out.later hb5 (Nat.le_refl _)); have HB5 : Hid (Below W2.heap.size W2 w5) := HB4.out.trans (hb5.mono HB4.out.size); have HB5' : Hid (Below w.heap.size w w5) := HB4'.out.trans (hb5.mono HB4'.out.size); have BR5 := hidP (BR4.out.below hb5 BR4.out.lt); have BC5 := hidP (BC4.out.below hb5 BC4.out.lt); clear hn5 hb5 c0 c1' c2 c3)
    | (go_at_call 18; (with_reducible refine (sameNums_any _ _ E.1 _ HN45.out HN5.out HLn.out).mono ?_); rintro e w6 ⟨rfl, hb6⟩; have HB6 : Hid (Below W2.heap.size W2 w6) := HB5.out.trans (hb6.mono HB5.out.size); have HB6' : Hid (Below w.heap.size w w6) := HB5'.out.trans (hb6.mono HB5'.out.size); have BR6 := BR5.out.below hb6 BR5.out.lt; have BC6 := BC5.out.below hb6 BC5.out.lt; have f0 := BR6.cell 0 (v := .int .i64 r.1) rfl; have f1 := BR6.cell 1 (v := .slice am r.2.length cm) rfl; have f2 := BC6.cell 0 (v := .int .i64 r.1) rfl; have f3 := BC6.cell 1 (v := .slice a1 r.2.length c1) rfl; clear BR6 BC6 hb6)
    | (go_at_call 12; (with_reducible refine (sameRun_any _ _ r _ (HQ2.out.later HB6.out (Nat.le_refl _)) (HR.out.later HB6'.out (Nat.le_refl _)) HO.out).mono ?_); rintro e w7 ⟨rfl, hb7⟩; have HB7 : Hid (Below w.heap.size w w7) := HB6'.out.trans (hb7.mono HB6'.out.size); clear hb7))
  go_ret
  exact ⟨rfl, HB7.out⟩

set_option maxRecDepth 100000 in
theorem lifted (os : Os) (started : os.Started) (H : Type) (enc : TypeId × Value → H) :
    ReturnsInHanded {} Try.checked os 5 .any (Rows.streamEndsSpec.pre6 enc Try.prog Try.f5 Rows.streamEndsRow.domain false) (Rows.streamEndsSpec.post enc Try.prog Try.f5 false true false false) := by
  refine returnsInHanded_of_change_sized (C := Try.checked) own started (by kernel_rfl) Try.func5
    (ChangeSpec.witness6 (enc := enc) (C := Try.checked) false ⟨#[], #[.agg #[.int .i64 0, .slice none 0 0], .agg #[.int .i64 0, .slice none 0 0]], []⟩ 8 (by kernel_rfl) (by kernel_rfl) (by kernel_rfl) (by kernel_rfl)) ?_
  intro W base args ds gs before hval0 hW hcnd hsz0 _
  have hsz : (DataW.weightsEach Try.prog (Try.f5.params.toList ++ Rows.streamEndsSpec.plain.varTypes Try.prog) (ds ++ gs)).all (· ≤ reachBytes) = true := hsz0
  have hval : ∀ (j : Nat) t v, Try.f5.params[j]? = some t → args[j]? = some v → Value.okWide Try.prog W .any base t v := hval0
  clear hval0 hsz0
  have hW' := hW
  obtain ⟨p, q, hA0, hV, rfl, hfz, hnd⟩ := hW
  have hA : DataW.TrodAll enc Try.prog W 0 (fun _ => true) true Try.f5.params.toList args.toList ds p := hA0
  rw [Try.params5] at hA hval hsz
  obtain ⟨v0, vs0, d0, ds0, p0, q0, hargs, rfl, rfl, h0, r0⟩ := trodAll_cons hA
  obtain ⟨v1, vs1, d1, ds1, p1, q1, rfl, rfl, rfl, h1, r1⟩ := trodAll_cons r0
  obtain ⟨rfl, rfl, rfl⟩ := trodAll_nil r1
  obtain rfl : args = #[v0, v1] := by cases args; simp_all
  obtain ⟨rfl, rfl⟩ := trodVars_none hV
  have k0 := h0
  have lt0 : ∀ x ∈ p0, x.block < W.heap.size := by obtain ⟨m, hm⟩ := k0; exact DataW.trod_lt m _ _ _ hm
  obtain ⟨z0, w0⟩ : ∃ m : Mc, Mach W v0 m ∧ okM m ∧ (Lit.int .i64 m.1).wf = true ∧ ∀ s ∈ m.2, (Lit.int .i64 s.1).wf = true ∧ ∀ a ∈ s.2, wfA a := by
    obtain ⟨c0, c1, y0, y1, n, rfl, hd, hp, t0, t1⟩ := Go.Joins.open_agg2 Try.underlying24 (by kernel_rfl) (by kernel_rfl) (hval 0 24 v0 rfl rfl) h0
    subst hd
    exact open_machine t0 t1 ((Fits.arg hsz (j := 0) rfl rfl).field Try.underlying24 (f := 1) rfl rfl)
  have k1 := h1
  have lt1 : ∀ x ∈ p1, x.block < W.heap.size := by obtain ⟨m, hm⟩ := k1; exact DataW.trod_lt m _ _ _ hm
  obtain ⟨z1, w1⟩ : ∃ r : Ru, RunV W v1 r ∧ okU r ∧ (Lit.int .i64 r.1).wf = true ∧ ∀ k ∈ r.2, (Lit.int .i64 k.1).wf = true ∧ (Lit.int .i64 k.2.1).wf = true ∧ ∀ x ∈ k.2.2, (Lit.int .i64 x).wf = true := by
    obtain ⟨c0, c1, y0, y1, n, rfl, hd, hp, t0, t1⟩ := Go.Joins.open_agg2 Try.underlying28 (by kernel_rfl) (by kernel_rfl) (hval 1 28 v1 rfl rfl) h1
    subst hd
    exact open_run t0 t1 ((Fits.arg hsz (j := 1) rfl rfl).field Try.underlying28 (f := 1) rfl rfl)
  refine (walk v0 z0 v1 z1 W w0 w1).mono fun e W' ⟨he, bel⟩ => ?_
  subst he
  exact ⟨_, rfl, _, _, _, [], _, [], hW', trodAll_mk1 (shut_bool Try.underlying4 _), (trodAll_cons_mk (Below.trod laidOut (by kernel_rfl) (of_decide_eq_true (by kernel_rfl)) k0 bel lt0) (trodAll_cons_mk (Below.trod laidOut (by kernel_rfl) (of_decide_eq_true (by kernel_rfl)) k1 bel lt1) trodAll_mk0)), rfl, bel.frame _, fun h => by cases h⟩
end Go.Proofs.Ytkeeiihaijhdoaa.streamEnds
namespace Go.Proofs.Ytkeeiihaijhdoaa
theorem streamEnds_holds : Rows.StreamEndsSaid :=
  OpenClaim.holds_of_wide 5 Try.f5 rfl rfl rfl rfl rfl rfl rfl ⟨rfl, rfl, rfl, rfl, rfl⟩ rfl rfl rfl rfl rfl (by kernel_rfl) Try.func5 (by kernel_rfl)
    (of_decide_eq_true (by kernel_rfl)) (by unfold Func.isWrapper; first | (rw [if_pos (by decide +kernel)]; kernel_rfl) | (rw [if_neg (by decide +kernel)]; exact ⟨rfl, rfl⟩))
    (fun os started H enc _ => streamEnds.lifted os started H enc)
#print axioms streamEnds_holds
end Go.Proofs.Ytkeeiihaijhdoaa
