/- The statement StreamBegins: whatever machine is given, the program's Begin and the document's answer agree and the machine is not changed, for every input and without any condition. -/
import Derived.Test.YtkeeiihaijhdoaaSkf
import Derived.Test.YtkeeiihaijhdoaaSkx
import Derived.Test.YtkeeiihaijhdoaaMcO
import Derived.Test.YtkeeiihaijhdoaaMcC
import Derived.Test.YtkeeiihaijhdoaaMcS
import Derived.Lib.SmallJoins
import Derived.ChangeOld
import Derived.Below
namespace Go.Proofs.Ytkeeiihaijhdoaa.streamBegins
open Go.ChangeShapes Go.WideShapes Go.ChangeAt Go.RowKit
open Go.Proofs.Ytkeeiihaijhdoaa.Pl Go.Proofs.Ytkeeiihaijhdoaa.Wt Go.Proofs.Ytkeeiihaijhdoaa.Sm
set_option linter.unusedVariables false
theorem own : ownKnob Try.prog.godebug = none := by kernel_rfl
theorem laidOut : laidOutB Try.prog = true := by kernel_rfl
theorem beg_ok {m : Mc} {r : Ru} {ec : Int} (h : BegAns m r ec) : okU r := by
  rcases h with ⟨_, rfl, _⟩ | ⟨hf, K, hK, h⟩
  · exact ⟨by simp, by simp⟩
  · rcases h with ⟨_, rfl, _⟩ | ⟨_, rfl, _⟩
    · exact ⟨by simp, by simp⟩
    · have h60 : m.2.length ≤ 60 := by obtain ⟨z, l⟩ := m; exact (right_size hf).1
      have hz := start_rng hf
      have e := hK.one (itT_clo (startT_dom hz.2) (arcs_ok hf))
      refine ⟨by have := ordL_len m.2.length K; simp only; omega, fun j hj => ?_⟩
      have h1 := ordL_mem (el_mem hj)
      rw [e] at h1
      have h2 := itT_bnd hf (startT_bnd m) _ _ _ h1
      rw [← e] at h2
      simp only at h2 ⊢
      omega
set_option maxRecDepth 100000 in
set_option maxHeartbeats 1600000 in
theorem walk (v : Value) (m : Mc) (w : World) (h : Mach w v m ∧ okM m ∧ (Lit.int .i64 m.1).wf = true ∧ ∀ s ∈ m.2, (Lit.int .i64 s.1).wf = true ∧ ∀ a ∈ s.2, wfA a) :
    Calls Try.prog 3 #[v] w fun e w' => e = .returned (.bool true) ∧ Below w.heap.size w w' := by
  obtain ⟨h, hok, _⟩ := h
  have HI := hidP h
  have HK := hidP hok
  obtain ⟨vs, rfl, hS⟩ := h
  obtain ⟨a, cap, rfl⟩ := hS.sl
  clear hS hok
  have HB0 : Hid (Below w.heap.size w (w.alloc (.cells #[.int .i64 m.1, .slice a m.2.length cap] 24))) := (Below.refl _ _).alloc (Nat.le_refl _) _
  go_enter Try.func3, Try.ntmps3
  go_wp2_with (first
    | (go_at_call 9; (with_reducible refine (machine_any _ m _ (HI.out.later HB0.out (Nat.le_refl _)) HK.out).mono ?_); rintro e w1 ⟨v1, rfl, hi, hb⟩; have HI1 : Hid (Mach w1 v1 m) := hi; obtain ⟨vs1, rfl, hS1⟩ := hi; obtain ⟨a1, cap1, rfl⟩ := hS1.sl; clear hS1; obtain ⟨s1, b1, hb1⟩ := boxed hb (by simp); have BM1 := hidP b1; have HB1 : Hid (Below w.heap.size w w1) := hb1; have BC1 : Hid (Blk (w1.alloc (.cells #[.int .i64 m.1, .slice a1 m.2.length cap1] 24)) w1.heap.size #[.int .i64 m.1, .slice a1 m.2.length cap1] 24) := Blk.made w1 _ _; have HW1 : Hid (Below w1.heap.size w1 (w1.alloc (.cells #[.int .i64 m.1, .slice a1 m.2.length cap1] 24))) := (Below.refl _ _).alloc (Nat.le_refl _) _; clear b1 hb1 hb)
    | (go_at_call 10; (with_reducible refine (beginP_any _ m _ (HI1.out.later HW1.out (Nat.le_refl _)) HK.out).mono ?_); rintro e w2 ⟨⟨rf, rl⟩, ec, hans, v2, rfl, hr2, hb⟩; have HA2 := hidP hans; have HR2 := hidP hr2; obtain ⟨vs2, rfl, hm2⟩ := hr2; obtain ⟨a2, c2, rfl⟩ := hm2.sl; have HB2 : Hid (Below w1.heap.size w1 w2) := HW1.out.trans (hb.mono HW1.out.size); have BC2 := hidP (BC1.out.below hb BC1.out.lt); have HB2' : Hid (Below w.heap.size w w2) := HB1.out.trans (HB2.out.mono HB1.out.size); have BM2 := hidP (BM1.out.below HB2.out BM1.out.lt); have HW2 : Hid (Below w2.heap.size w2 (w2.alloc (.cells #[.int .i64 rf, .slice a2 rl.length c2] 28))) := (Below.refl _ _).alloc (Nat.le_refl _) _; have BR2 : Hid (Blk (w2.alloc (.cells #[.int .i64 rf, .slice a2 rl.length c2] 28)) w2.heap.size #[.int .i64 rf, .slice a2 rl.length c2] 28) := Blk.made w2 _ _; have d0 := (BM2.out.alloc (.cells #[.int .i64 rf, .slice a2 rl.length c2] 28)).cell 0 (v := .int .i64 m.1) rfl; have d1 := (BM2.out.alloc (.cells #[.int .i64 rf, .slice a2 rl.length c2] 28)).cell 1 (v := .slice a m.2.length cap) rfl; clear hans hm2 hb)
    | (go_at_call 11; (with_reducible refine (beginR_any _ m _ (HI.out.later (HB2'.out.trans (HW2.out.mono HB2'.out.size)) (Nat.le_refl _)) HK.out).mono ?_); rintro e w3 ⟨r3, ec3, hans3, v3, rfl, hr3, hb⟩; obtain ⟨hrr, hee⟩ := hans3.one HA2.out; subst hrr hee; have HR3 := hidP hr3; obtain ⟨vs3, rfl, hm3⟩ := hr3; obtain ⟨a3, c3, rfl⟩ := hm3.sl; have HB3 : Hid (Below w2.heap.size w2 w3) := HW2.out.trans (hb.mono HW2.out.size); have HB3' : Hid (Below w.heap.size w w3) := HB2'.out.trans (HB3.out.mono HB2'.out.size); have BR3 := hidP (BR2.out.below hb BR2.out.lt); have BC3 := hidP (BC2.out.below HB3.out BC2.out.lt); have BM3 := hidP (BM2.out.below HB3.out BM2.out.lt); have HW3 : Hid (Below w3.heap.size w3 (w3.alloc (.cells #[.int .i64 rf, .slice a3 rl.length c3] 28))) := (Below.refl _ _).alloc (Nat.le_refl _) _; have e0 := (BR3.out.alloc (.cells #[.int .i64 rf, .slice a3 rl.length c3] 28)).cell 0 (v := .int .i64 rf) rfl; have e1 := (BR3.out.alloc (.cells #[.int .i64 rf, .slice a3 rl.length c3] 28)).cell 1 (v := .slice a2 rl.length c2) rfl; have hec : (ec3 == ec3) = true := (by simp); have HOK := hidP (beg_ok HA2.out); clear hans3 hm3 hb d0 d1)
    | (go_at_call 12; (with_reducible refine (sameRun_any _ _ (rf, rl) _ (HR2.out.later (HB3.out.trans (HW3.out.mono HB3.out.size)) (Nat.le_refl _)) (HR3.out.later HW3.out (Nat.le_refl _)) HOK.out).mono ?_); rintro e w4 ⟨rfl, hb⟩; have HB4 : Hid (Below w3.heap.size w3 w4) := HW3.out.trans (hb.mono HW3.out.size); have BC4 := BC3.out.below HB4.out BC3.out.lt; have BM4 := BM3.out.below HB4.out BM3.out.lt; have f0 := BC4.cell 0 (v := .int .i64 m.1) rfl; have f1 := BC4.cell 1 (v := .slice a1 m.2.length cap1) rfl; have f2 := BM4.cell 0 (v := .int .i64 m.1) rfl; have f3 := BM4.cell 1 (v := .slice a m.2.length cap) rfl; have HB4' : Hid (Below w.heap.size w w4) := HB3'.out.trans (HB4.out.mono HB3'.out.size); have HC4 : Hid (Below w1.heap.size w1 w4) := HB2.out.trans ((HB3.out.trans (HB4.out.mono HB3.out.size)).mono HB2.out.size); clear hb BC4 BM4)
    | (go_at_call 13; (with_reducible refine (sameMachine_any _ _ m _ (HI1.out.later HC4.out (Nat.le_refl _)) (HI.out.later HB4'.out (Nat.le_refl _)) HK.out).mono ?_); rintro e w5 ⟨rfl, hb5⟩; have HB5 : Hid (Below w.heap.size w w5) := HB4'.out.trans (hb5.mono HB4'.out.size); clear hb5))
  go_ret
  exact ⟨rfl, HB5.out⟩

set_option maxRecDepth 100000 in
theorem lifted (os : Os) (started : os.Started) (H : Type) (enc : TypeId × Value → H) :
    ReturnsInHanded {} Try.checked os 3 .any (Rows.streamBeginsSpec.pre6 enc Try.prog Try.f3 Rows.streamBeginsRow.domain false) (Rows.streamBeginsSpec.post enc Try.prog Try.f3 false true false false) := by
  refine returnsInHanded_of_change_sized (C := Try.checked) own started (by kernel_rfl) Try.func3
    (ChangeSpec.witness6 (enc := enc) (C := Try.checked) false ⟨#[], #[.agg #[.int .i64 0, .slice none 0 0]], []⟩ 8 (by kernel_rfl) (by kernel_rfl) (by kernel_rfl) (by kernel_rfl)) ?_
  intro W base args ds gs before hval0 hW hcnd hsz0 _
  have hsz : (DataW.weightsEach Try.prog (Try.f3.params.toList ++ Rows.streamBeginsSpec.plain.varTypes Try.prog) (ds ++ gs)).all (· ≤ reachBytes) = true := hsz0
  have hval : ∀ (j : Nat) t v, Try.f3.params[j]? = some t → args[j]? = some v → Value.okWide Try.prog W .any base t v := hval0
  clear hval0 hsz0
  have hW' := hW
  obtain ⟨p, q, hA0, hV, rfl, hfz, hnd⟩ := hW
  have hA : DataW.TrodAll enc Try.prog W 0 (fun _ => true) true Try.f3.params.toList args.toList ds p := hA0
  rw [Try.params3] at hA hval hsz
  obtain ⟨v0, vs0, d0, ds0, p0, q0, hargs, rfl, rfl, h0, r0⟩ := trodAll_cons hA
  obtain ⟨rfl, rfl, rfl⟩ := trodAll_nil r0
  obtain rfl : args = #[v0] := by cases args; simp_all
  obtain ⟨rfl, rfl⟩ := trodVars_none hV
  have k0 := h0
  have lt0 : ∀ x ∈ p0, x.block < W.heap.size := by obtain ⟨m, hm⟩ := k0; exact DataW.trod_lt m _ _ _ hm
  obtain ⟨z0, w0⟩ : ∃ m : Mc, Mach W v0 m ∧ okM m ∧ (Lit.int .i64 m.1).wf = true ∧ ∀ s ∈ m.2, (Lit.int .i64 s.1).wf = true ∧ ∀ a ∈ s.2, wfA a := by
    obtain ⟨c0, c1, y0, y1, n, rfl, hd, hp, t0, t1⟩ := Go.Joins.open_agg2 Try.underlying24 (by kernel_rfl) (by kernel_rfl) (hval 0 24 v0 rfl rfl) h0
    subst hd
    exact open_machine t0 t1 ((Fits.arg hsz (j := 0) rfl rfl).field Try.underlying24 (f := 1) rfl rfl)
  refine (walk v0 z0 W w0).mono fun e W' ⟨he, bel⟩ => ?_
  subst he
  exact ⟨_, rfl, _, _, _, [], _, [], hW', trodAll_mk1 (shut_bool Try.underlying4 _), (trodAll_cons_mk (Below.trod laidOut (by kernel_rfl) (of_decide_eq_true (by kernel_rfl)) k0 bel lt0) trodAll_mk0), rfl, bel.frame _, fun h => by cases h⟩
end Go.Proofs.Ytkeeiihaijhdoaa.streamBegins
namespace Go.Proofs.Ytkeeiihaijhdoaa
theorem streamBegins_holds : Rows.StreamBeginsSaid :=
  OpenClaim.holds_of_wide 3 Try.f3 rfl rfl rfl rfl rfl rfl rfl ⟨rfl, rfl, rfl, rfl, rfl⟩ rfl rfl rfl rfl rfl (by kernel_rfl) Try.func3 (by kernel_rfl)
    (of_decide_eq_true (by kernel_rfl)) (by unfold Func.isWrapper; first | (rw [if_pos (by decide +kernel)]; kernel_rfl) | (rw [if_neg (by decide +kernel)]; exact ⟨rfl, rfl⟩))
    (fun os started H enc _ => streamBegins.lifted os started H enc)
#print axioms streamBegins_holds
end Go.Proofs.Ytkeeiihaijhdoaa
