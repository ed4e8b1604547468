/- The statement StarRound: whatever numbers a machine is made of, its star has a cycle just where it has a path, for every input and without any condition. -/
import Derived.Test.YtfajkomajbhphaaKf
import Derived.Test.YtfajkomajbhphaaRx
import Derived.Test.YtfajkomajbhphaaOp
import Derived.Test.YtfajkomajbhphaaOq
import Derived.Test.YtfajkomajbhphaaSz
import Derived.Test.YtfajkomajbhphaaLo
import Derived.Lib.SmallJoins
import Derived.ChangeOld
import Derived.Below
namespace Go.Proofs.Ytfajkomajbhphaa.starRound
open Go.ChangeShapes Go.WideShapes Go.ChangeAt Go.RowKit
open Go.Proofs.Ytfajkomajbhphaa.Pl Go.Proofs.Ytfajkomajbhphaa.Wt
set_option linter.unusedVariables false
set_option linter.unusedSimpArgs false

theorem own : ownKnob Try.prog.godebug = none := by kernel_rfl
theorem laidOut : laidOutB Try.prog = true := by kernel_rfl
theorem mach_first {w : World} {z : Int} {a : Option Addr} {n c : Nat} {m : Mc} (h : Mach w (.agg #[.int .i64 z, .slice a n c]) m) (hl : 0 < m.2.length) : ∃ b off, a = some ⟨b, off, none⟩ ∧ b < w.heap.size ∧ w.cell? ⟨b, off, none⟩ = some (.int .i64 (el m.2 0).1) := by
  obtain ⟨vs, hv, hS⟩ := h
  simp only [Value.agg.injEq, Array.mk.injEq, List.cons.injEq, and_true] at hv
  obtain ⟨a', c', he, hc⟩ := hS.get
  obtain ⟨b, off, va, h1, h2, h3, _, _⟩ := hc 0 hl
  rw [← hv.2] at he
  injection he with e1 _ _
  refine ⟨b, off, by rw [e1, h1], h2, ?_⟩
  simpa using h3
/-- What comes out of it. -/
def TrimOf (a T : Mc) : Prop := ∃ aa, Least (AheadC (staM a).1 (staM a).2) (staM a).2.length aa ∧ ∃ bs, Least (BackC (staM a).2) (staM a).2.length bs ∧ T = trimM (staM a).1 (staM a).2 (keptL aa bs (staM a).2.length)
theorem TrimOf.right {a T : Mc} (h : TrimOf a T) (hf : faultM (staM a) = 0) : faultM T = 0 := by
  obtain ⟨aa, _, bs, _, rfl⟩ := h
  exact trim_fault hf
theorem facts {a : Mc} (ha : Slim a) (hf : faultM (staM a) = 0) {T : Mc} (hT : TrimOf a T) {n g ec : Int} (h1 : PathAns a 0 n g) (h2 : ∃ out, OrdAns T 0 ec out) : g = 0 ∧ ((0 < n ∧ ec = 6) ∨ (n = 0 ∧ ec = 0)) := by
  obtain ⟨F, hF, hF0⟩ := ha.cnt
  obtain ⟨e1, e2⟩ := pathAns_of ha.fwd ha.start ha.pos hF (by omega) h1
  obtain ⟨aa, hA, bs, hB, rfl⟩ := hT
  obtain ⟨out, ho⟩ := h2
  refine ⟨e1, ?_⟩
  unfold OrdAns at ho
  rw [if_pos rfl] at ho
  by_cases h0 : F 0 = 0
  · obtain ⟨out', ho'⟩ := sta_alone ha hf hF hA hB h0
    rcases ho with ⟨h, _⟩ | ⟨_, h, _⟩
    · exact .inr ⟨by omega, h⟩
    · exact absurd h ho'.noCycle
  · rcases ho with ⟨_, h⟩ | ⟨h, _⟩
    · exact absurd h (sta_cycle ha hf hF hA hB (by omega))
    · exact .inl ⟨by omega, h⟩
set_option maxRecDepth 100000 in
set_option maxHeartbeats 1600000 in
theorem walk (vx : Value) (rx : Rw) (w : World) (hx : RawV w vx rx ∧ okR rx ∧ wfR rx) :
    Calls Try.prog 8 #[vx] w fun e w' => e = .returned (.bool true) ∧ Below w.heap.size w w' := by
  obtain ⟨hx, hokx, hwfx⟩ := hx
  have HIx : Hid (RawV w vx rx) := hx
  have HOKx : Hid (okR rx) := hokx
  have HWFx : Hid (wfR rx) := hwfx
  obtain ⟨hfx, hslx⟩ := slim6 rx
  have HFx := hidP hfx
  have HSLx := hidP hslx
  have HKMx := hidP (okR0 hfx)
  obtain ⟨vs0x, rfl, hNx⟩ := hx
  obtain ⟨a0x, c0x, rfl, hNxx⟩ := hNx.get
  clear hNx hNxx hokx hwfx
  obtain ⟨Mx, hMx⟩ : ∃ Mx, fwdM (madeM rx 6 false) = Mx := ⟨_, rfl⟩
  have HEx : Hid (∀ v w, RawV w v rx → okR rx → wfR rx → Calls Try.prog 17 #[v, .int .i64 6] w fun e w' => ∃ v', e = .returned v' ∧ Mach w' v' Mx ∧ Below w.heap.size w w') := fun v w h1 h2 h3 => by rw [← hMx]; exact fwd6 v rx w h1 h2 h3
  rw [hMx] at hfx hslx
  clear hMx HFx HSLx HKMx
  obtain ⟨s1, s2, s3⟩ := slim_sta hslx hfx
  have hSl := staM_len Mx
  have HFC : Hid (∀ T n g ec, TrimOf Mx T → PathAns Mx 0 n g → (∃ out, OrdAns T 0 ec out) → g = 0 ∧ ((0 < n ∧ ec = 6) ∨ (n = 0 ∧ ec = 0))) := fun T n g ec h1 h2 h3 => facts hslx s3 h1 h2 h3
  have HSC : Hid (∀ W v, Mach W v Mx → Calls Try.prog 15 #[v] W fun e w' => RatRes (staM Mx) 0 W e w') := fun W v h1 => by
    have := starP_any v _ W h1 (okR0 hfx)
    rw [s1, s2] at this
    exact this
  have HTC : Hid (∀ W v, Mach W v (staM Mx) → Calls Try.prog 20 #[v] W fun e w' => ∃ v' T, e = .returned (.tuple #[v', .int .i64 0]) ∧ Mach w' v' T ∧ TrimOf Mx T ∧ Below W.heap.size W w') := fun W v h => (trim_run v _ W h (okR0 s3) s3).mono fun e w' ⟨v', he, ⟨aa, h1, bs, h2, h3⟩, hb⟩ => ⟨v', _, he, h3, ⟨aa, h1, bs, h2, rfl⟩, hb⟩
  have HPx : Hid (∀ W v, Mach W v Mx → Calls Try.prog 18 #[v] W fun e w' => ∃ (x ec : Int), e = .returned (.tuple #[.int .i64 x, .int .i64 ec]) ∧ PathAns Mx 0 x ec ∧ Below W.heap.size W w') := fun W v h => paths_any v Mx W h (okR0 hfx) 0 hfx
  have HOC : Hid (∀ W v T, TrimOf Mx T → Mach W v T → Calls Try.prog 21 #[v] W fun e w' => ∃ (v' : Value) (ec : Int), e = .returned (.tuple #[v', .int .i64 ec]) ∧ (∃ out, OrdAns T 0 ec out) ∧ Below W.heap.size W w') := fun W v T hT h => (order_any v T W h (okR0 (hT.right s3)) 0 (hT.right s3)).mono fun e w' ⟨v', ec, he, ⟨out, _, ho⟩, hb⟩ => ⟨v', ec, he, ⟨out, ho⟩, hb⟩
  have h6x := hslx.six
  have hS0 : 0 < (staM Mx).2.length := by omega
  have hS1 : ((staM Mx).1 != 0) = false := rfl
  have hS2 : ((el (staM Mx).2 0).1 != 0) = false := rfl
  have t1 : IntKind.i64.wrap ((Mx.2.length : Int) + 1) = (Mx.2.length : Int) + 1 := wrapI (by omega) (by omega)
  have t2 : (((staM Mx).2.length : Int) != (Mx.2.length : Int) + 1) = false := by simp; omega
  have t3 : (0 : Int) < ((staM Mx).2.length : Int) := by omega
  clear hfx hslx s1 s2 s3 hSl
  generalize staM Mx = S at *
  have HB0 : Hid (∀ o1, Below w.heap.size w (w.alloc o1)) := fun o1 => (Below.refl _ _).alloc (Nat.le_refl _) _
  go_enter Try.func8, Try.ntmps8
  go_wp2_with (first
    | (go_at_call 17; (with_reducible refine (HEx.out _ _ (HIx.out.later (HB0.out _) (Nat.le_refl _)) HOKx.out HWFx.out).mono ?_); rintro e w1 ⟨v1, rfl, hm, hb⟩; have HMx : Hid (Mach w1 v1 (Mx)) := hm; obtain ⟨vsx, rfl, hSx⟩ := hm; obtain ⟨ax, cx, rfl⟩ := hSx.sl; clear hSx; obtain ⟨s1, bb0, hb1⟩ := boxed hb (by simp); have KX1 := hidP bb0; clear bb0; have HB1 := hidP hb1; have qX0 := (KX1.out.alloc (.cells #[.int .i64 Mx.1, .slice ax Mx.2.length cx] 24)).cell 0 (v := .int .i64 rx.1) rfl; have qX1 := (KX1.out.alloc (.cells #[.int .i64 Mx.1, .slice ax Mx.2.length cx] 24)).cell 1 (v := .slice a0x rx.2.length c0x) rfl; clear hb hb1)
    | (go_at_call 15; (with_reducible refine (HSC.out _ _ (HMx.out.later ((Below.refl _ _).alloc (Nat.le_refl _) _) (Nat.le_refl _))).mono ?_); rintro e w2 ⟨v2, rfl, hm, hb⟩; have HMs : Hid (Mach w2 v2 (S)) := hm; obtain ⟨vss, rfl, hSs⟩ := hm; obtain ⟨a9, cs, rfl⟩ := hSs.sl; clear hSs; obtain ⟨bS, oS, hab, hbS, hcS⟩ := mach_first HMs.out hS0; subst hab; have HCS := hidP hcS; clear hcS; obtain ⟨s2, bb0, hb2⟩ := boxed hb (by simp); have KVx2 := hidP bb0; clear bb0; have HB2 := hidP (HB1.out.trans (hb2.mono HB1.out.size)); have KX2 := hidP (KX1.out.below hb2 KX1.out.lt); have Hx2 := hidP hb2; have qX0 := (KX2.out.alloc (.cells #[.int .i64 S.1, .slice (some ⟨bS, oS, none⟩) S.2.length cs] 24)).cell 0 (v := .int .i64 rx.1) rfl; have qX1 := (KX2.out.alloc (.cells #[.int .i64 S.1, .slice (some ⟨bS, oS, none⟩) S.2.length cs] 24)).cell 1 (v := .slice a0x rx.2.length c0x) rfl; have qVx0 := (KVx2.out.alloc (.cells #[.int .i64 S.1, .slice (some ⟨bS, oS, none⟩) S.2.length cs] 24)).cell 0 (v := .int .i64 Mx.1) rfl; have qVx1 := (KVx2.out.alloc (.cells #[.int .i64 S.1, .slice (some ⟨bS, oS, none⟩) S.2.length cs] 24)).cell 1 (v := .slice ax Mx.2.length cx) rfl; clear hb hb2)
    | (go_at_call 20; (with_reducible refine (HTC.out _ _ (HMs.out.later ((Below.refl _ _).alloc (Nat.le_refl _) _) (Nat.le_refl _))).mono ?_); rintro e w3 ⟨v3, T, rfl, hm, hT, hb⟩; have HMt : Hid (Mach w3 v3 (T)) := hm; obtain ⟨vst, rfl, hSt⟩ := hm; obtain ⟨a8, ct, rfl⟩ := hSt.sl; clear hSt; obtain ⟨s3, bb0, hb3⟩ := boxed hb (by simp); have KVs3 := hidP bb0; clear bb0; have HB3 := hidP (HB2.out.trans (hb3.mono HB2.out.size)); have KX3 := hidP (KX2.out.below hb3 KX2.out.lt); have KVx3 := hidP (KVx2.out.below hb3 KVx2.out.lt); have Hx3 := hidP (Hx2.out.trans (hb3.mono Hx2.out.size)); have Hs3 := hidP hb3; have qX0 := (KX3.out.alloc (.cells #[.int .i64 T.1, .slice a8 T.2.length ct] 24)).cell 0 (v := .int .i64 rx.1) rfl; have qX1 := (KX3.out.alloc (.cells #[.int .i64 T.1, .slice a8 T.2.length ct] 24)).cell 1 (v := .slice a0x rx.2.length c0x) rfl; have qVx0 := (KVx3.out.alloc (.cells #[.int .i64 T.1, .slice a8 T.2.length ct] 24)).cell 0 (v := .int .i64 Mx.1) rfl; have qVx1 := (KVx3.out.alloc (.cells #[.int .i64 T.1, .slice a8 T.2.length ct] 24)).cell 1 (v := .slice ax Mx.2.length cx) rfl; have qVs0 := (KVs3.out.alloc (.cells #[.int .i64 T.1, .slice a8 T.2.length ct] 24)).cell 0 (v := .int .i64 S.1) rfl; have qVs1 := (KVs3.out.alloc (.cells #[.int .i64 T.1, .slice a8 T.2.length ct] 24)).cell 1 (v := .slice (some ⟨bS, oS, none⟩) S.2.length cs) rfl; have HT := hidP hT; clear hT; clear hb hb3)
    | (go_at_call 18; (with_reducible refine (HPx.out _ _ (HMx.out.later (Hx3.out.alloc Hx3.out.size _) (Nat.le_refl _))).mono ?_); rintro e w4 ⟨nx, ex, rfl, hp, hb⟩; obtain ⟨s4, bb0, hb4⟩ := boxed hb (by simp); have KVt4 := hidP bb0; clear bb0; have HB4 := hidP (HB3.out.trans (hb4.mono HB3.out.size)); have KX4 := hidP (KX3.out.below hb4 KX3.out.lt); have KVx4 := hidP (KVx3.out.below hb4 KVx3.out.lt); have KVs4 := hidP (KVs3.out.below hb4 KVs3.out.lt); have Hx4 := hidP (Hx3.out.trans (hb4.mono Hx3.out.size)); have Hs4 := hidP (Hs3.out.trans (hb4.mono Hs3.out.size)); have Ht4 := hidP hb4; have qX0 := KX4.out.cell 0 (v := .int .i64 rx.1) rfl; have qX1 := KX4.out.cell 1 (v := .slice a0x rx.2.length c0x) rfl; have qVx0 := KVx4.out.cell 0 (v := .int .i64 Mx.1) rfl; have qVx1 := KVx4.out.cell 1 (v := .slice ax Mx.2.length cx) rfl; have qVs0 := KVs4.out.cell 0 (v := .int .i64 S.1) rfl; have qVs1 := KVs4.out.cell 1 (v := .slice (some ⟨bS, oS, none⟩) S.2.length cs) rfl; have qVt0 := KVt4.out.cell 0 (v := .int .i64 T.1) rfl; have qVt1 := KVt4.out.cell 1 (v := .slice a8 T.2.length ct) rfl; have HPA := hidP hp; clear hp; clear hb hb4)
    | (go_at_call 21; (with_reducible refine (HOC.out _ _ _ HT.out (HMt.out.later Ht4.out (Nat.le_refl _))).mono ?_); rintro e w5 ⟨vo, eo, rfl, hor, hb⟩; have hb5 := hb; have HB5 := hidP (HB4.out.trans (hb5.mono HB4.out.size)); have KX5 := hidP (KX4.out.below hb5 KX4.out.lt); have KVx5 := hidP (KVx4.out.below hb5 KVx4.out.lt); have KVs5 := hidP (KVs4.out.below hb5 KVs4.out.lt); have KVt5 := hidP (KVt4.out.below hb5 KVt4.out.lt); have Hx5 := hidP (Hx4.out.trans (hb5.mono Hx4.out.size)); have Hs5 := hidP (Hs4.out.trans (hb5.mono Hs4.out.size)); have Ht5 := hidP (Ht4.out.trans (hb5.mono Ht4.out.size)); have qX0 := KX5.out.cell 0 (v := .int .i64 rx.1) rfl; have qX1 := KX5.out.cell 1 (v := .slice a0x rx.2.length c0x) rfl; have qVx0 := KVx5.out.cell 0 (v := .int .i64 Mx.1) rfl; have qVx1 := KVx5.out.cell 1 (v := .slice ax Mx.2.length cx) rfl; have qVs0 := KVs5.out.cell 0 (v := .int .i64 S.1) rfl; have qVs1 := KVs5.out.cell 1 (v := .slice (some ⟨bS, oS, none⟩) S.2.length cs) rfl; have qVt0 := KVt5.out.cell 0 (v := .int .i64 T.1) rfl; have qVt1 := KVt5.out.cell 1 (v := .slice a8 T.2.length ct) rfl; obtain ⟨hex, hcase⟩ := HFC.out _ _ _ _ HT.out HPA.out hor; subst hex; clear hor; have qS := (Hs5.out.cell (p := ⟨bS, oS, none⟩) hbS).trans HCS.out; rcases hcase with ⟨hn, rfl⟩ | ⟨rfl, rfl⟩; clear hb hb5))
  all_goals (go_ret; exact ⟨rfl, HB5.out⟩)

set_option maxRecDepth 100000 in
theorem lifted (os : Os) (started : os.Started) (H : Type) (enc : TypeId × Value → H) :
    ReturnsInHanded {} Try.checked os 8 .any (Rows.starRoundSpec.pre6 enc Try.prog Try.f8 Rows.starRoundRow.domain false) (Rows.starRoundSpec.post enc Try.prog Try.f8 false true false false) := by
  refine returnsInHanded_of_change_sized (C := Try.checked) own started (by kernel_rfl) Try.func8
    (ChangeSpec.witness6 (enc := enc) (C := Try.checked) false ⟨#[], #[.agg #[.int .i64 0, .slice none 0 0]], []⟩ 8 (by kernel_rfl) (by kernel_rfl) (by kernel_rfl) (by kernel_rfl)) ?_
  intro W base args ds gs before hval0 hW hcnd hsz0 _
  have hsz : (DataW.weightsEach Try.prog (Try.f8.params.toList ++ Rows.starRoundSpec.plain.varTypes Try.prog) (ds ++ gs)).all (· ≤ reachBytes) = true := hsz0
  have hval : ∀ (j : Nat) t v, Try.f8.params[j]? = some t → args[j]? = some v → Value.okWide Try.prog W .any base t v := hval0
  clear hval0 hsz0
  have hW' := hW
  obtain ⟨p, q, hA0, hV, rfl, hfz, hnd⟩ := hW
  have hA : DataW.TrodAll enc Try.prog W 0 (fun _ => true) true Try.f8.params.toList args.toList ds p := hA0
  rw [Try.params8] at hA hval hsz
  obtain ⟨v0, vs0, d0, ds0, p0, q0, hargs, rfl, rfl, h0, r0⟩ := trodAll_cons hA
  obtain ⟨rfl, rfl, rfl⟩ := trodAll_nil r0
  obtain rfl : args = #[v0] := by cases args; simp_all
  obtain ⟨rfl, rfl⟩ := trodVars_none hV
  have k0 := h0
  have lt0 : ∀ x ∈ p0, x.block < W.heap.size := by obtain ⟨m, hm⟩ := k0; exact DataW.trod_lt m _ _ _ hm
  obtain ⟨z0, w0⟩ : ∃ m : Rw, RawV W v0 m ∧ okR m ∧ wfR m := by
    obtain ⟨c0, c1, y0, y1, n, rfl, hd, hp, t0, t1⟩ := Go.Joins.open_agg2 Try.underlying34 (by kernel_rfl) (by kernel_rfl) (hval 0 34 v0 rfl rfl) h0
    subst hd
    exact open_raw t0 t1 ((Fits.arg hsz (j := 0) rfl rfl).field Try.underlying34 (f := 1) rfl rfl)
  refine (walk v0 z0 W w0).mono fun e W' ⟨he, bel⟩ => ?_
  subst he
  exact ⟨_, rfl, _, _, _, [], _, [], hW', trodAll_mk1 (shut_bool Try.underlying4 _), (trodAll_cons_mk (Below.trod laidOut (by kernel_rfl) (of_decide_eq_true (by kernel_rfl)) k0 bel lt0) trodAll_mk0), rfl, bel.frame _, fun h => by cases h⟩
end Go.Proofs.Ytfajkomajbhphaa.starRound
namespace Go.Proofs.Ytfajkomajbhphaa
theorem starRound_holds : Rows.StarRoundSaid :=
  OpenClaim.holds_of_wide 8 Try.f8 rfl rfl rfl rfl rfl rfl rfl ⟨rfl, rfl, rfl, rfl, rfl⟩ rfl rfl rfl rfl rfl (by kernel_rfl) Try.func8 (by kernel_rfl)
    (of_decide_eq_true (by kernel_rfl)) (by unfold Func.isWrapper; first | (rw [if_pos (by decide +kernel)]; kernel_rfl) | (rw [if_neg (by decide +kernel)]; exact ⟨rfl, rfl⟩))
    (fun os started H enc _ => starRound.lifted os started H enc)
#print axioms starRound_holds
end Go.Proofs.Ytfajkomajbhphaa
