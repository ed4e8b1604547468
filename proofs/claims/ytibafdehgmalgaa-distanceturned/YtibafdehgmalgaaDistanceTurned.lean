/- The statement DistanceTurned: whatever numbers a machine is made of, how far it is to an end is how far it is from the start of the machine from behind, for every input and without any condition. -/
import Derived.Test.YtibafdehgmalgaaMd
import Derived.Test.YtibafdehgmalgaaKe
import Derived.Test.YtibafdehgmalgaaKj
import Derived.Test.YtibafdehgmalgaaWy
import Derived.Test.YtibafdehgmalgaaTo
import Derived.Test.YtibafdehgmalgaaPlainTy
import Derived.Test.YtibafdehgmalgaaPlainDe
import Derived.Test.YtibafdehgmalgaaLo
import Derived.Lib.SmallJoins
import Derived.ChangeOld
import Derived.Below
namespace Go.Proofs.Ytibafdehgmalgaa.distanceTurned
open Go.ChangeShapes Go.WideShapes Go.ChangeAt Go.RowKit
open Go.Proofs.Ytibafdehgmalgaa.Pl Go.Proofs.Ytibafdehgmalgaa.Wt
set_option linter.unusedVariables false
set_option linter.unusedSimpArgs false

theorem own : ownKnob Try.prog.godebug = none := by kernel_rfl
theorem laidOut : laidOutB Try.prog = true := by kernel_rfl
set_option maxRecDepth 100000 in
set_option maxHeartbeats 3200000 in
theorem core (vx : Value) (rx : Rw) (w : World) (hx : RawV w vx rx ∧ okR rx ∧ wfR rx) :
    Calls Try.prog 7 #[vx] w fun e w' => e = .returned (.bool true) ∧ Below w.heap.size w w' := by
  obtain ⟨hx, hokx, hwfx⟩ := hx
  have HIx : Hid (RawV w vx rx) := hx
  have HOKx : Hid (okR rx) := hokx
  have HWFx : Hid (wfR rx) := hwfx
  obtain ⟨hfx, hcx, hlx, hax, hpx⟩ := made_facts rx 8 (by omega) (by omega)
  have HEx : Hid (∀ v W, RawV W v rx → okR rx → wfR rx → Calls Try.prog 18 #[v, .int .i64 8, .bool false] W fun e w' => ∃ v', e = .returned v' ∧ Mach w' v' (madeM rx 8 false) ∧ Below W.heap.size W w') := fun v W h1 h2 h3 => made_any v rx 8 false W h1 h2 h3 (by omega) (by omega)
  obtain ⟨vs0x, rfl, hNx⟩ := hx
  obtain ⟨a0x, c0x, rfl, hNxx⟩ := hNx.get
  clear hNx hNxx hokx hwfx
  obtain ⟨u1, u2, u3⟩ := rev_small hfx (by omega) (fun q hq => made_fourG rx 8 false hq)
  have hUl := revM_len (madeM rx 8 false)
  have HUC : Hid (∀ W v, Mach W v (madeM rx 8 false) → Calls Try.prog 21 #[v] W fun e w' => RatRes (revM (madeM rx 8 false)) 0 W e w') := fun W v h1 => by
    have := reverseP_any v _ W h1 (right_ok hfx)
    rw [u1, u2] at this
    exact this
  have HCe : Hid (∀ W v, Mach W v (madeM rx 8 false) → Calls Try.prog 14 #[v] W fun e w' => DstRes (madeM rx 8 false) (EndC (madeM rx 8 false).2) W e w') := fun W v h1 => ends_cst v _ W h1 hfx hcx
  have HCf : Hid (∀ W v, Mach W v (revM (madeM rx 8 false)) → Calls Try.prog 10 #[v] W fun e w' => DstRes (revM (madeM rx 8 false)) (FarC (revM (madeM rx 8 false)).1 (revM (madeM rx 8 false)).2) W e w') := fun W v h1 => from_cst v _ W h1 u3 (rev_cheap hcx)
  have HFC : Hid (∀ L K : List Int, (∀ q, q < (madeM rx 8 false).2.length → CstIs (EndC (madeM rx 8 false).2 q) (el L q)) → (∀ q, q < (revM (madeM rx 8 false)).2.length → CstIs (FarC (revM (madeM rx 8 false)).1 (revM (madeM rx 8 false)).2 q) (el K q)) → ∀ q, q < (madeM rx 8 false).2.length → el L q = el K (q + 1)) := fun L K h1 h2 q hq => (h1 q hq).eq (h2 (q + 1) (by rw [hUl]; omega)) (fun c => far_rev (right_ToIn hfx) hq c)
  have h8 : (madeM rx 8 false).2.length ≤ 8 := hlx
  clear hfx hcx u1 u2 u3 hax hpx hlx
  generalize revM (madeM rx 8 false) = U at *
  generalize madeM rx 8 false = Mx at *
  have HUL := hidP hUl
  clear hUl
  have HB0 : Hid (∀ o1, Below w.heap.size w (w.alloc o1)) := fun o1 => (Below.refl _ _).alloc (Nat.le_refl _) _
  go_enter Try.func7, Try.ntmps7
  have t5 : IntKind.i64.wrap ((Mx.2.length : Int) + 1) = (Mx.2.length : Int) + 1 := wrapI (by omega) (by omega)
  go_wp2_with (first
    | (go_at_call 18; (with_reducible refine (HEx.out _ _ (HIx.out.later (HB0.out _) (Nat.le_refl _)) HOKx.out HWFx.out).mono ?_); rintro e w1 ⟨v1, rfl, hm, hb⟩; have HMx : Hid (Mach w1 v1 (Mx)) := hm; obtain ⟨vsx, rfl, hSx⟩ := hm; obtain ⟨ax, cx, rfl⟩ := hSx.sl; clear hSx; obtain ⟨s1, bb0, hb1⟩ := boxed hb (by simp); have KX1 := hidP bb0; clear bb0; have HB1 := hidP hb1; have qX0 := (KX1.out.alloc (.cells #[.int .i64 Mx.1, .slice ax Mx.2.length cx] 24)).cell 0 (v := .int .i64 rx.1) rfl; have qX1 := (KX1.out.alloc (.cells #[.int .i64 Mx.1, .slice ax Mx.2.length cx] 24)).cell 1 (v := .slice a0x rx.2.length c0x) rfl; clear hb hb1)
    | (go_at_call 21; (with_reducible refine (HUC.out _ _ (HMx.out.later ((Below.refl _ _).alloc (Nat.le_refl _) _) (Nat.le_refl _))).mono ?_); rintro e w2 ⟨v2, rfl, hm, hb⟩; have HMu : Hid (Mach w2 v2 (U)) := hm; obtain ⟨vsu, rfl, hSu⟩ := hm; obtain ⟨au, cu, rfl⟩ := hSu.sl; clear hSu; obtain ⟨s2, bb0, hb2⟩ := boxed hb (by simp); have KVx2 := hidP bb0; clear bb0; have HB2 := hidP (HB1.out.trans (hb2.mono HB1.out.size)); have KX2 := hidP (KX1.out.below hb2 KX1.out.lt); have Hx2 := hidP hb2; have qX0 := (KX2.out.alloc (.cells #[.int .i64 U.1, .slice au U.2.length cu] 24)).cell 0 (v := .int .i64 rx.1) rfl; have qX1 := (KX2.out.alloc (.cells #[.int .i64 U.1, .slice au U.2.length cu] 24)).cell 1 (v := .slice a0x rx.2.length c0x) rfl; have qVx0 := (KVx2.out.alloc (.cells #[.int .i64 U.1, .slice au U.2.length cu] 24)).cell 0 (v := .int .i64 Mx.1) rfl; have qVx1 := (KVx2.out.alloc (.cells #[.int .i64 U.1, .slice au U.2.length cu] 24)).cell 1 (v := .slice ax Mx.2.length cx) rfl; clear hb hb2)
    | (go_at_call 14; (with_reducible refine (HCe.out _ _ (HMx.out.later (Hx2.out.alloc Hx2.out.size _) (Nat.le_refl _))).mono ?_); rintro e w3 ⟨v3, Ll, rfl, hq, hn, hb⟩; have HQl := hidP hq; have HNl : Hid (Nums w3 v3 Ll) := hn; obtain ⟨awl, cwl, hv, _⟩ := hn.get; rw [hq.1] at hv; subst hv; clear hq hn; obtain ⟨s3, bb0, hb3⟩ := boxed hb (by simp); have KVu3 := hidP bb0; clear bb0; have HB3 := hidP (HB2.out.trans (hb3.mono HB2.out.size)); have KX3 := hidP (KX2.out.below hb3 KX2.out.lt); have KVx3 := hidP (KVx2.out.below hb3 KVx2.out.lt); have Hx3 := hidP (Hx2.out.trans (hb3.mono Hx2.out.size)); have Hu3 := hidP hb3; have qX0 := KX3.out.cell 0 (v := .int .i64 rx.1) rfl; have qX1 := KX3.out.cell 1 (v := .slice a0x rx.2.length c0x) rfl; have qVx0 := KVx3.out.cell 0 (v := .int .i64 Mx.1) rfl; have qVx1 := KVx3.out.cell 1 (v := .slice ax Mx.2.length cx) rfl; have qVu0 := KVu3.out.cell 0 (v := .int .i64 U.1) rfl; have qVu1 := KVu3.out.cell 1 (v := .slice au U.2.length cu) rfl; clear hb hb3)
    | (go_at_call 10; (with_reducible refine (HCf.out _ _ (HMu.out.later Hu3.out (Nat.le_refl _))).mono ?_); rintro e w4 ⟨v4, Lk, rfl, hq, hn, hb⟩; have HQk := hidP hq; have HNk : Hid (Nums w4 v4 Lk) := hn; obtain ⟨awk, cwk, hv, _⟩ := hn.get; rw [hq.1, HUL.out] at hv; subst hv; clear hq hn; have hb4 := hb; have HB4 := hidP (HB3.out.trans (hb4.mono HB3.out.size)); have KX4 := hidP (KX3.out.below hb4 KX3.out.lt); have KVx4 := hidP (KVx3.out.below hb4 KVx3.out.lt); have KVu4 := hidP (KVu3.out.below hb4 KVu3.out.lt); have Hx4 := hidP (Hx3.out.trans (hb4.mono Hx3.out.size)); have Hu4 := hidP (Hu3.out.trans (hb4.mono Hu3.out.size)); have Hl4 := hidP hb4; have qX0 := KX4.out.cell 0 (v := .int .i64 rx.1) rfl; have qX1 := KX4.out.cell 1 (v := .slice a0x rx.2.length c0x) rfl; have qVx0 := KVx4.out.cell 0 (v := .int .i64 Mx.1) rfl; have qVx1 := KVx4.out.cell 1 (v := .slice ax Mx.2.length cx) rfl; have qVu0 := KVu4.out.cell 0 (v := .int .i64 U.1) rfl; have qVu1 := KVu4.out.cell 1 (v := .slice au U.2.length cu) rfl; clear hb hb4))
  have HEQ := hidP (HFC.out Ll Lk HQl.out.2 HQk.out.2)
  obtain ⟨_, _, e1, g1⟩ := (HNl.out.later Hl4.out (Nat.le_refl _)).get
  obtain ⟨_, _, e2, g2⟩ := HNk.out.get
  rw [HQl.out.1] at e1 g1
  rw [HQk.out.1, HUL.out] at e2 g2
  simp only [Value.slice.injEq, true_and] at e1 e2
  obtain ⟨rfl, rfl⟩ := e1
  obtain ⟨rfl, rfl⟩ := e2
  have G1 := hidP g1
  have G2 := hidP g2
  clear g1 g2
  generalize hn : Mx.2.length = n at *
  have HNN := hidP hn
  clear hn
  go_loopw [10] (fun i wr => ∃ j : Nat, j ≤ n ∧ i = .int .i64 j ∧ Hid (Below w4.heap.size w4 wr)) (fun i _ => n - (intOf i).toNat)
  case atStart => exact ⟨0, Nat.zero_le _, rfl, Below.refl _ _⟩
  case round =>
    obtain ⟨j, hj, rfl, hbj⟩ := hrel
    by_cases hlt : j < n
    · obtain ⟨b1, o1, rfl, hb1, c1⟩ := G1.out j hlt
      obtain ⟨b2, o2, rfl, hb2, c2⟩ := G2.out (j + 1) (by omega)
      have c1 := (hbj.out.cell (p := ⟨b1, o1 + j, none⟩) hb1).trans c1
      have c2 := (hbj.out.cell (p := ⟨b2, o2 + (j + 1), none⟩) hb2).trans c2
      rw [HEQ.out j hlt] at c1
      generalize el Lk (j + 1) = y at *
      have hy : (y != y) = false := by simp
      have k0 : (0 : Int) ≤ (j : Int) := by omega
      have k1 : (j : Int) < (n : Int) := by omega
      have k2 : IntKind.i64.wrap ((j : Int) + 1) = (j : Int) + 1 := wrapI (by omega) (by omega)
      have k3 : (j : Int) + 1 < (n : Int) + 1 := by omega
      have k4 : (0 : Int) ≤ (j : Int) + 1 := by omega
      have k5 : ((j : Int) + 1).toNat = j + 1 := by omega
      go_wp2
      go_quiet (fail)
      go_wp2
      go_roundw
      case rel => exact ⟨j + 1, by omega, by go_num, below_drewN hbj.out _⟩
      case measure => simp [intOf]; omega
    · have k1 : ¬ (j : Int) < (n : Int) := by omega
      go_wp2
      go_ret
      exact ⟨rfl, HB4.out.trans (hbj.out.mono HB4.out.size)⟩
theorem walk (vx : Value) (rx : Rw) (w : World) (hx : RawV w vx rx ∧ okR rx ∧ wfR rx) :
    Calls Try.prog 7 #[vx] w fun e w' => e = .returned (.bool true) ∧ Below w.heap.size w w' := core vx rx w hx

set_option maxRecDepth 100000 in
theorem lifted (os : Os) (started : os.Started) (H : Type) (enc : TypeId × Value → H) :
    ReturnsInHanded {} Try.checked os 7 .any (Rows.distanceTurnedSpec.pre6 enc Try.prog Try.f7 Rows.distanceTurnedRow.domain false) (Rows.distanceTurnedSpec.post enc Try.prog Try.f7 false true false false) := by
  refine returnsInHanded_of_change_sized (C := Try.checked) own started (by kernel_rfl) Try.func7
    (ChangeSpec.witness6 (enc := enc) (C := Try.checked) false ⟨#[], #[.agg #[.int .i64 0, .slice none 0 0]], []⟩ 8 (by kernel_rfl) (by kernel_rfl) (by kernel_rfl) (by kernel_rfl)) ?_
  intro W base args ds gs before hval0 hW hcnd hsz0 _
  have hsz : (DataW.weightsEach Try.prog (Try.f7.params.toList ++ Rows.distanceTurnedSpec.plain.varTypes Try.prog) (ds ++ gs)).all (· ≤ reachBytes) = true := hsz0
  have hval : ∀ (j : Nat) t v, Try.f7.params[j]? = some t → args[j]? = some v → Value.okWide Try.prog W .any base t v := hval0
  clear hval0 hsz0
  have hW' := hW
  obtain ⟨p, q, hA0, hV, rfl, hfz, hnd⟩ := hW
  have hA : DataW.TrodAll enc Try.prog W 0 (fun _ => true) true Try.f7.params.toList args.toList ds p := hA0
  rw [Try.params7] at hA hval hsz
  obtain ⟨v0, vs0, d0, ds0, p0, q0, hargs, rfl, rfl, h0, r0⟩ := trodAll_cons hA
  obtain ⟨rfl, rfl, rfl⟩ := trodAll_nil r0
  obtain rfl : args = #[v0] := by cases args; simp_all
  obtain ⟨rfl, rfl⟩ := trodVars_none hV
  have k0 := h0
  have lt0 : ∀ x ∈ p0, x.block < W.heap.size := by obtain ⟨m, hm⟩ := k0; exact DataW.trod_lt m _ _ _ hm
  obtain ⟨z0, w0⟩ : ∃ m : Rw, RawV W v0 m ∧ okR m ∧ wfR m := by
    obtain ⟨c0, c1, y0, y1, n, rfl, hd, hp, t0, t1⟩ := Go.Joins.open_agg2 Try.underlying37 (by kernel_rfl) (by kernel_rfl) (hval 0 37 v0 rfl rfl) h0
    subst hd
    exact open_raw t0 t1 ((Fits.arg hsz (j := 0) rfl rfl).field Try.underlying37 (f := 1) rfl rfl)
  refine (walk v0 z0 W w0).mono fun e W' ⟨he, bel⟩ => ?_
  subst he
  exact ⟨_, rfl, _, _, _, [], _, [], hW', trodAll_mk1 (shut_bool Try.underlying4 _), (trodAll_cons_mk (Below.trod laidOut (by kernel_rfl) (of_decide_eq_true (by kernel_rfl)) k0 bel lt0) trodAll_mk0), rfl, bel.frame _, fun h => by cases h⟩
end Go.Proofs.Ytibafdehgmalgaa.distanceTurned
namespace Go.Proofs.Ytibafdehgmalgaa
theorem distanceTurned_holds : Rows.DistanceTurnedSaid :=
  OpenClaim.holds_of_wide 7 Try.f7 rfl rfl rfl rfl rfl rfl rfl ⟨rfl, rfl, rfl, rfl, rfl⟩ rfl rfl rfl rfl rfl (by kernel_rfl) Try.func7 (by kernel_rfl)
    (of_decide_eq_true (by kernel_rfl)) (by unfold Func.isWrapper; first | (rw [if_pos (by decide +kernel)]; kernel_rfl) | (rw [if_neg (by decide +kernel)]; exact ⟨rfl, rfl⟩))
    (fun os started H enc _ => distanceTurned.lifted os started H enc)
#print axioms distanceTurned_holds
end Go.Proofs.Ytibafdehgmalgaa
