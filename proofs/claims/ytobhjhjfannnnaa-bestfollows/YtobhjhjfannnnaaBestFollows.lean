/- The statement BestFollows: whatever machine and arcs are given, the program's Follow and the document's answer agree and the arcs are not changed, for every input and without any condition. -/
import Derived.Test.YtobhjhjfannnnaaVaa
import Derived.Test.YtobhjhjfannnnaaVab
import Derived.Test.YtobhjhjfannnnaaVag
import Derived.Test.YtobhjhjfannnnaaVah
import Derived.Lib.SmallJoins
import Derived.ChangeOld
import Derived.Below
namespace Go.Proofs.Ytobhjhjfannnnaa.bestFollows
open Go.ChangeShapes Go.WideShapes Go.ChangeAt Go.RowKit
open Go.Proofs.Ytobhjhjfannnnaa.Pl Go.Proofs.Ytobhjhjfannnnaa.Wt
set_option linter.unusedVariables false
theorem flwL_len {l : List St} : ∀ (ks : List Int) (q : Int) (r : List Int × List Int × Int), flwL l ks q = some r → r.1.length ≤ ks.length ∧ r.2.1.length ≤ ks.length
  | [], q, r, h => by
    unfold flwL at h
    split at h
    · cases h
    · simp only [Option.some.injEq] at h
      subst h
      exact ⟨Nat.le_refl _, Nat.le_refl _⟩
  | k :: ks, q, r, h => by
    unfold flwL at h
    split at h
    · cases h
    · rw [Option.map_eq_some_iff] at h
      obtain ⟨s, h1, rfl⟩ := h
      obtain ⟨h2, h3⟩ := flwL_len ks _ s h1
      have k1 := putL_len [] (el (el l q.toNat).2 k.toNat).1
      have k2 := putL_len [] (el (el l q.toNat).2 k.toNat).2.1
      simp only [List.length_append, List.length_cons, List.length_nil] at k1 k2 ⊢
      omega
theorem flwA_len {m : Mc} {ks : List Int} {x y : List Int} {c ec : Int} (h : flwA m ks = ((x, y, c), ec)) : x.length ≤ ks.length ∧ y.length ≤ ks.length := by
 unfold flwA at h
 split at h
 ·simp only [Prod.mk.injEq] at h
  obtain ⟨⟨rfl, rfl, _⟩, _⟩ := h
  simp
 ·split at h
  ·simp only [Prod.mk.injEq] at h
   obtain ⟨⟨rfl, rfl, _⟩, _⟩ := h
   simp
  ·split at h
   ·simp only [Prod.mk.injEq] at h
    obtain ⟨⟨rfl, rfl, _⟩, _⟩ := h
    simp
   ·rename_i r hr
    have h1 := flwL_len ks _ r hr
    split at h
    ·simp only [Prod.mk.injEq] at h
     obtain ⟨⟨rfl, rfl, _⟩, _⟩ := h
     simp
    ·simp only [Prod.mk.injEq] at h
     obtain ⟨rfl, _⟩ := h
     exact h1
theorem own : ownKnob Try.prog.godebug = none := by kernel_rfl
theorem laidOut : laidOutB Try.prog = true := by kernel_rfl
set_option maxRecDepth 100000 in
set_option maxHeartbeats 3200000 in
theorem core (v : Value) (m : Mc) (vk : Value) (ks : List Int) (w : World) (h : Mach w v m) (hok : okM m) (hk : Nums w vk ks) (lk : ks.length * 8 ≤ 140737488351232) :
  Calls Try.prog 5 #[v, vk] w fun e w' => e = .returned (.bool true) ∧ Below w.heap.size w w' := by
 have HI : Hid (Mach w v m) := h
 have HK : Hid (okM m) := hok
 have HKS := hidP hk
 have HLK := hidP lk
 have HMX : Hid (ks.length ≤ 17592186044416) := by show _ ≤ _; omega
 obtain ⟨vs, rfl, hS⟩ := h
 obtain ⟨a, cap, rfl⟩ := hS.sl
 clear hS hok hk lk
 have HB0 : Hid (Below w.heap.size w (w.alloc (.cells #[.int .i64 m.1, .slice a m.2.length cap] 24))) := (Below.refl _ _).alloc (Nat.le_refl _) _
 go_enter Try.func5, Try.ntmps5
 go_wp2_with (first
  | (go_at_call 16; (with_reducible refine (ints_nums _ ks _ (HKS.out.later HB0.out (Nat.le_refl _)) HLK.out).mono ?_); rintro e w1 ⟨vc, rfl, hx, hb⟩; have HC1 : Hid (Nums w1 vc ks) := hx; obtain ⟨s1, b1, hb1⟩ := boxed hb (by simp); have c0 := b1.cell 0 (v := .int .i64 m.1) rfl; have c1 := b1.cell 1 (v := .slice a m.2.length cap) rfl; have HB1 : Hid (Below w.heap.size w w1) := hb1; clear b1 hb1 hb hx)
  | (go_at_call 9; (with_reducible refine (machine_any _ m _ (HI.out.later HB1.out (Nat.le_refl _)) HK.out).mono ?_); rintro e w2 ⟨v1, rfl, hi, hb⟩; have HI2 : Hid (Mach w2 v1 m) := hi; obtain ⟨vs1, rfl, hS1⟩ := hi; obtain ⟨a1, cap1, rfl⟩ := hS1.sl; clear hS1; have HC2 : Hid (Nums w2 vc ks) := HC1.out.later hb (Nat.le_refl _); have d0 := low c0 hb; have d1 := low c1 hb; have HB2 : Hid (Below w.heap.size w w2) := HB1.out.trans (hb.mono HB1.out.size); clear hb)
  | (go_at_call 17; (with_reducible refine (Bw.followP_any _ m _ ks _ HI2.out HK.out HC2.out).mono ?_); rintro e w3 ⟨vx, vy, x, y, c, ec, rfl, hA, hx, hy, hb⟩; have HA3 : Hid (flwA m ks = ((x, y, c), ec)) := hA; have HX3 : Hid (Nums w3 vx x) := hx; have HY3 : Hid (Nums w3 vy y) := hy; have HC3 : Hid (Nums w3 vc ks) := HC2.out.later hb (Nat.le_refl _); have e0 := low d0 hb; have e1 := low d1 hb; have HB3 : Hid (Below w.heap.size w w3) := HB2.out.trans (hb.mono HB2.out.size); clear hb hA hx hy)
  | (go_at_call 18; (with_reducible refine (Bw.followR_any _ m _ ks _ (HI.out.later HB3.out (Nat.le_refl _)) HK.out (HKS.out.later HB3.out (Nat.le_refl _))).mono ?_); rintro e w4 ⟨vx4, vy4, x4, y4, c4, ec4, rfl, hA4, hx4, hy4, hb⟩; have hE := HA3.out.symm.trans hA4; simp only [Prod.mk.injEq] at hE; obtain ⟨⟨hE1, hE2, hE3⟩, hE4⟩ := hE; subst hE1; subst hE2; subst hE3; subst hE4; have HX4 : Hid (Nums w4 vx4 x) := hx4; have HY4 : Hid (Nums w4 vy4 y) := hy4; have HX4' : Hid (Nums w4 vx x) := HX3.out.later hb (Nat.le_refl _); have HY4' : Hid (Nums w4 vy y) := HY3.out.later hb (Nat.le_refl _); have HC4 : Hid (Nums w4 vc ks) := HC3.out.later hb (Nat.le_refl _); have HB4 : Hid (Below w.heap.size w w4) := HB3.out.trans (hb.mono HB3.out.size); have HLX : Hid (x.length ≤ 17592186044416 ∧ y.length ≤ 17592186044416) := ⟨Nat.le_trans (flwA_len HA3.out).1 HMX.out, Nat.le_trans (flwA_len HA3.out).2 HMX.out⟩; clear hb hA4 hx4 hy4)
  | (go_at_call 12; (with_reducible refine (sameNums_any vx vx4 x w4 HX4'.out HX4.out HLX.out.1).mono ?_); rintro e w5 ⟨rfl, hb⟩; have HY5 : Hid (Nums w5 vy4 y) := HY4.out.later hb (Nat.le_refl _); have HY5' : Hid (Nums w5 vy y) := HY4'.out.later hb (Nat.le_refl _); have HC5 : Hid (Nums w5 vc ks) := HC4.out.later hb (Nat.le_refl _); have HB5 : Hid (Below w.heap.size w w5) := HB4.out.trans (hb.mono HB4.out.size); clear hb)
  | (go_at_call 12; (with_reducible refine (sameNums_any vy vy4 y w5 HY5'.out HY5.out HLX.out.2).mono ?_); rintro e w6 ⟨rfl, hb⟩; have HC6 : Hid (Nums w6 vc ks) := HC5.out.later hb (Nat.le_refl _); have HB6 : Hid (Below w.heap.size w w6) := HB5.out.trans (hb.mono HB5.out.size); clear hb)
  | (go_at_call 12; (with_reducible refine (sameNums_any vc vk ks w6 HC6.out (HKS.out.later HB6.out (Nat.le_refl _)) HMX.out).mono ?_); rintro e w7 ⟨rfl, hb⟩; have HB7 : Hid (Below w.heap.size w w7) := HB6.out.trans (hb.mono HB6.out.size); clear hb))
 go_ret
 exact ⟨rfl, HB7.out⟩
theorem walk (v : Value) (m : Mc) (a1 : Option Addr) (len1 cap1 : Nat) (z1 : List Int) (w : World) (h : Mach w v m ∧ okM m ∧ (Lit.int .i64 m.1).wf = true ∧ ∀ s ∈ m.2, (Lit.int .i64 s.1).wf = true ∧ ∀ a ∈ s.2, wfA a) (w1 : IsRow .i64 w a1 len1 cap1 z1 ∧ cap1 * 8 ≤ 140737488351232) :
  Calls Try.prog 5 #[v, .slice a1 len1 cap1] w fun e w' => e = .returned (.bool true) ∧ Below w.heap.size w w' := by
 obtain ⟨h1, h2, h3⟩ := row_nums w1.1
 exact core v m _ _ w h.1 h.2.1 h1 (by have := w1.2; omega)
set_option maxRecDepth 100000 in
theorem lifted (os : Os) (started : os.Started) (H : Type) (enc : TypeId × Value → H) :
  ReturnsInHanded {} Try.checked os 5 .any (Rows.bestFollowsSpec.pre6 enc Try.prog Try.f5 Rows.bestFollowsRow.domain false) (Rows.bestFollowsSpec.post enc Try.prog Try.f5 false true false false) := by
 refine returnsInHanded_of_change_sized (C := Try.checked) own started (by kernel_rfl) Try.func5
  (ChangeSpec.witness6 (enc := enc) (C := Try.checked) false ⟨#[], #[.agg #[.int .i64 0, .slice none 0 0], .slice none 0 0], []⟩ 8 (by kernel_rfl) (by kernel_rfl) (by kernel_rfl) (by kernel_rfl)) ?_
 intro W base args ds gs before hval0 hW hcnd hsz0 _
 have hsz : (DataW.weightsEach Try.prog (Try.f5.params.toList ++ Rows.bestFollowsSpec.plain.varTypes Try.prog) (ds ++ gs)).all (· ≤ reachBytes) = true := hsz0
 have hval : ∀ (j : Nat) t v, Try.f5.params[j]? = some t → args[j]? = some v → Value.okWide Try.prog W .any base t v := hval0
 clear hval0 hsz0
 have hW' := hW
 obtain ⟨p, q, hA0, hV, rfl, hfz, hnd⟩ := hW
 have hA : DataW.TrodAll enc Try.prog W 0 (fun _ => true) true Try.f5.params.toList args.toList ds p := hA0
 rw [Try.params5] at hA hval hsz
 obtain ⟨v0, vs0, d0, ds0, p0, q0, hargs, rfl, rfl, h0, r0⟩ := trodAll_cons hA
 obtain ⟨v1, vs1, d1, ds1, p1, q1, rfl, rfl, rfl, h1, r1⟩ := trodAll_cons r0
 obtain ⟨rfl, rfl, rfl⟩ := trodAll_nil r1
 obtain rfl : args = #[v0, v1] := by cases args; simp_all
 obtain ⟨rfl, rfl⟩ := trodVars_none hV
 have k0 := h0
 have lt0 : ∀ x ∈ p0, x.block < W.heap.size := by obtain ⟨m, hm⟩ := k0; exact DataW.trod_lt m _ _ _ hm
 obtain ⟨z0, w0⟩ : ∃ m : Mc, Mach W v0 m ∧ okM m ∧ (Lit.int .i64 m.1).wf = true ∧ ∀ s ∈ m.2, (Lit.int .i64 s.1).wf = true ∧ ∀ a ∈ s.2, wfA a := by
  obtain ⟨c0, c1, y0, y1, n, rfl, hd, hp, t0, t1⟩ := Go.Joins.open_agg2 Try.underlying24 (by kernel_rfl) (by kernel_rfl) (hval 0 24 v0 rfl rfl) h0
  subst hd
  exact open_machine t0 t1 ((Fits.arg hsz (j := 0) rfl rfl).field Try.underlying24 (f := 1) rfl rfl)
 obtain ⟨a1, len1, cap1, rfl⟩ := okWide_slice Try.underlying26 (hval 1 26 v1 rfl rfl)
 have k1 := h1
 have lt1 : ∀ x ∈ p1, x.block < W.heap.size := by obtain ⟨m, hm⟩ := k1; exact DataW.trod_lt m _ _ _ hm
 obtain ⟨z1, w1⟩ : ∃ zs, IsRow .i64 W a1 len1 cap1 zs ∧ cap1 * 8 ≤ 140737488351232 := by
  obtain ⟨fuel, hf⟩ := h1
  rcases open_ints Try.underlying26 Try.underlying3 (by kernel_rfl) hf with ⟨hcs, _⟩ | ⟨x, l, c, zs, hcs, _, hl, hm, hz, hx, hcell, hwz⟩
  ·simp [Value.cells] at hcs
   obtain ⟨rfl, rfl, rfl⟩ := hcs
   exact ⟨[], .inl ⟨rfl, rfl, rfl, rfl⟩, by omega⟩
  ·have hd := congrArg Prod.fst hx
   have hsw := sized_slice hsz (j := 1) (t := 26) (e := 3) rfl (congrArg some hd) Try.underlying26
   have hby : Try.prog.bytesOf 3 = 8 := by kernel_rfl
   rw [hby] at hsw
   simp [Value.cells] at hcs
   obtain ⟨rfl, rfl, rfl⟩ := hcs
   have hz' : zs.length = cap1 := by simpa using hz
   simp only [lits, List.length_map, List.length_take, List.length_drop, reachBytes] at hsw
   exact ⟨zs, .inr ⟨_, rfl, hl, hm, hz', hcell, hwz⟩, by omega⟩
 refine (walk v0 z0 a1 len1 cap1 z1 W w0 w1).mono fun e W' ⟨he, bel⟩ => ?_
 subst he
 exact ⟨_, rfl, _, _, _, [], _, [], hW', trodAll_mk1 (shut_bool Try.underlying4 _), (trodAll_cons_mk (Below.trod laidOut (by kernel_rfl) (of_decide_eq_true (by kernel_rfl)) k0 bel lt0) (trodAll_cons_mk (Below.trod laidOut (by kernel_rfl) (of_decide_eq_true (by kernel_rfl)) k1 bel lt1) trodAll_mk0)), rfl, bel.frame _, fun h => by cases h⟩
end Go.Proofs.Ytobhjhjfannnnaa.bestFollows
namespace Go.Proofs.Ytobhjhjfannnnaa
theorem bestFollows_holds : Rows.BestFollowsSaid :=
 OpenClaim.holds_of_wide 5 Try.f5 rfl rfl rfl rfl rfl rfl rfl ⟨rfl, rfl, rfl, rfl, rfl⟩ rfl rfl rfl rfl rfl (by kernel_rfl) Try.func5 (by kernel_rfl)
  (of_decide_eq_true (by kernel_rfl)) (by unfold Func.isWrapper; first | (rw [if_pos (by decide +kernel)]; kernel_rfl) | (rw [if_neg (by decide +kernel)]; exact ⟨rfl, rfl⟩))
  (fun os started H enc _ => bestFollows.lifted os started H enc)
#print axioms bestFollows_holds
end Go.Proofs.Ytobhjhjfannnnaa
