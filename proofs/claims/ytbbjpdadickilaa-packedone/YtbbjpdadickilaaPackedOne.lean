/- The statement PackedOne: whatever numbers a machine is made of and whichever byte of it is changed, the change is told, for every input and without any condition. -/
import Derived.Test.YtbbjpdadickilaaEp
import Derived.Test.YtbbjpdadickilaaBs
import Derived.Test.YtbbjpdadickilaaPlainUr
import Derived.Test.YtbbjpdadickilaaMd
import Derived.Test.YtbbjpdadickilaaMcH
import Derived.Test.YtbbjpdadickilaaRg
import Derived.Lib.SmallJoins
import Derived.ChangeOld
import Derived.Below
namespace Go.Proofs.Ytbbjpdadickilaa.packedOne
open Go.ChangeShapes Go.WideShapes Go.ChangeAt Go.RowKit
open Go.Proofs.Ytbbjpdadickilaa.Pl Go.Proofs.Ytbbjpdadickilaa.Wt
set_option linter.unusedVariables false
set_option linter.unusedSimpArgs false

theorem own : ownKnob Try.prog.godebug = none := by kernel_rfl
theorem laidOut : laidOutB Try.prog = true := by kernel_rfl
theorem ok_right {m : Mc} (h : faultM m = 0) : okM m := by
  obtain ⟨z, l⟩ := m
  have h1 := right_size h
  refine ⟨by simp only; omega, fun j hj => ?_⟩
  have h2 := (right_fit h (el l j) (el_mem hj)).2.1
  simp only
  omega
theorem made8 (v : Value) (r : Rw) (w : World) (h : RawV w v r) (hok : okR r) (hwf : wfR r) :
    Calls Try.prog 15 #[v, .int .i64 8, .bool false] w fun e w' => ∃ v', e = .returned v' ∧ Mach w' v' (madeM r 8 false) ∧ Below w.heap.size w w' := made_any v r 8 false w h hok hwf (by omega) (by omega)
def HeldB (g q : Nat) (x : Int) (w : World) : Prop := w.cell? ⟨g, q, none⟩ = some (.int .u8 x) ∧ True
/-- Which byte is changed, how, and what is told of it. -/
theorem facts (r : Rw) (k d : Int) : ∃ (L : List Int) (n q : Nat) (e y : Int), faultM (madeM r 8 false) = 0 ∧ packM (madeM r 8 false) = L ∧ L.length = n ∧ 5 ≤ n ∧ n ≤ 8000 ∧ q < n ∧ pkR k (n : Int) = (q : Int) ∧ pkR d 255 = e ∧ 0 ≤ e ∧ e < 255 ∧ bits .xor .u8 (el L q) (1 + e) = y ∧ bytesB (L.set q y) ∧ ∀ m ec, UnpAns (L.set q y) m ec → ec = 11 ∧ m = (0, []) := by
  have hf := madeM_right r 8 (by omega) (by omega) false
  generalize madeM r 8 false = M at hf
  have h5 := packM_long M
  have hb := packM_bytes hf
  have hs := pack_short hf
  have hl := packM_len M
  have hl2 := packB_len M
  have ht := fun (q : Nat) (hq : q < (packM M).length) (y : Int) (hy : 0 ≤ y ∧ y < 256) (hne : y ≠ el (packM M) q) (m : Mc) (ec : Int) (h : UnpAns ((packM M).set q y) m ec) => UnpAns.told hf hq hy hne h
  obtain ⟨k0, k1⟩ := pkR_bd k ((packM M).length : Int) (by omega)
  obtain ⟨d0, d1⟩ := pkR_bd d 255 (by omega)
  obtain ⟨q, hq⟩ : ∃ q : Nat, pkR k ((packM M).length : Int) = (q : Int) := ⟨(pkR k ((packM M).length : Int)).toNat, by omega⟩
  have hqn : q < (packM M).length := by omega
  have hx := hb _ (el_mem hqn)
  obtain ⟨y1, y2⟩ := xor_byte hx (d := 1 + pkR d 255) (by omega)
  refine ⟨packM M, _, q, _, _, hf, rfl, rfl, h5, by omega, hqn, hq, rfl, d0, d1, rfl, ?_, fun m ec h => ht q hqn _ y1 y2 m ec h⟩
  intro z hz
  rcases List.mem_or_eq_of_mem_set hz with g | g
  · exact hb z g
  · rw [g]; exact y1
set_option maxRecDepth 100000 in
set_option maxHeartbeats 6400000 in
theorem walk (v : Value) (m : Rw) (k d : Int) (w : World) (h : RawV w v m ∧ okR m ∧ wfR m) (hk : (Lit.int .i64 k).wf = true) (hd : (Lit.int .i64 d).wf = true) :
    Calls Try.prog 6 #[v, .int .i64 k, .int .i64 d] w fun e w' => e = .returned (.bool true) ∧ Below w.heap.size w w' := by
  obtain ⟨h, hok, hwf⟩ := h
  have HI : Hid (RawV w v m) := h
  have HOK : Hid (okR m) := hok
  have HWF : Hid (wfR m) := hwf
  have HKW : Hid ((Lit.int .i64 k).wf = true) := hk
  have HDW : Hid ((Lit.int .i64 d).wf = true) := hd
  obtain ⟨L, n, q, e, y, hf, hL, hn, h5, h8, hq, hpk, hpd, he0, he1, hy, hbb, htold⟩ := facts m k d
  obtain ⟨M, hM⟩ : ∃ M, madeM m 8 false = M := ⟨_, rfl⟩
  rw [hM] at hf hL
  have HMM : Hid (madeM m 8 false = M) := hM
  have HF : Hid (faultM M = 0) := hf
  have HKM : Hid (okM M) := ok_right hf
  have HPM : Hid (packM M = L) := hL
  have HN : Hid (L.length = n) := hn
  have HPK : Hid (pkR k (n : Int) = (q : Int)) := hpk
  have HPD : Hid (pkR d 255 = e) := hpd
  have HDC : Hid (∀ (a : Option Addr) (c : Nat) (W : World), n ≤ c → Bys W (.slice a n c) (L.set q y) → Calls Try.prog 13 #[.slice a n c] W fun e w' => ∃ a2 c2, e = .returned (.tuple #[.agg #[.int .i64 0, .slice a2 0 c2], .int .i64 11]) ∧ Below W.heap.size W w') := by
    intro a c W hc hB
    have hln : (L.set q y).length = n := by rw [List.length_set, hn]
    rw [← hln] at hB hc ⊢
    exact (decodeP_any a c (L.set q y) W hB hbb hc).mono fun e w' ⟨v, m', ec', he, hm, ha, hb⟩ => by
      obtain ⟨h1, h2⟩ := htold _ _ ha
      subst h1 h2
      obtain ⟨vs, rfl, hS⟩ := hm
      obtain ⟨a2, c2, rfl⟩ := hS.sl
      exact ⟨a2, c2, he, hb⟩
  have HXY : Hid (bits .xor .u8 (el L q) (1 + e) = y) := hy
  obtain ⟨x, hx⟩ : ∃ x, el L q = x := ⟨_, rfl⟩
  have HX : Hid (el L q = x) := hx
  rw [hx] at hy
  clear hM hL hn hpk hpd hbb htold hok hwf hk hd hf HXY hx
  obtain ⟨vs, rfl, hN⟩ := h
  obtain ⟨ra, rcap, rfl, _⟩ := hN.get
  clear hN
  have hn5 : ¬ (n : Int) < 5 := by omega
  have hnp : (0 : Int) < (n : Int) := by omega
  have hq0 : (0 : Int) ≤ (q : Int) := by omega
  have hq1 : (q : Int) < (n : Int) := by omega
  have hw1 : IntKind.i64.wrap (1 + e) = 1 + e := wrapI (by omega) (by omega)
  have hw2 : IntKind.u8.wrap (1 + e) = 1 + e := by rw [IntKind.wrap_u8]; omega
  have HB0 : Hid (Below w.heap.size w (w.alloc (.cells #[.int .i64 m.1, .slice ra m.2.length rcap] 39))) := (Below.refl _ _).alloc (Nat.le_refl _) _
  go_enter Try.func6, Try.ntmps6
  go_upto_region 4 with (first
    | (go_at_call 15; (with_reducible refine (made8 _ m _ (HI.out.later HB0.out (Nat.le_refl _)) HOK.out HWF.out).mono ?_); rintro e1 w1 ⟨v1, rfl, hm1, hb1⟩; rw [HMM.out] at hm1; have HM1 := hid hm1; have HB1 : Hid (Below w.heap.size w w1) := HB0.out.trans (hb1.mono HB0.out.size); obtain ⟨vs1, rfl, hS1⟩ := hm1; obtain ⟨a1, c1, rfl⟩ := hS1.sl; clear hS1 hb1)
    | (go_at_call 8; (with_reducible refine (encodeP_any _ M _ HM1.out HKM.out).mono ?_); rintro e2 w2 ⟨v2, he, ho, hb2⟩; rw [HF.out] at he ho; rw [if_pos rfl, HPM.out] at ho; subst he; have HB2 : Hid (Below w.heap.size w w2) := HB1.out.trans (hb2.mono HB1.out.size); obtain ⟨g, c, hv, hg1, hg2, hc, hcell, hfz, hput⟩ := ho.put (q := q) (by rw [HN.out]; exact hq); rw [HN.out] at hv hc; rw [HX.out] at hcell; subst hv; have HPT := hid hput; have HC := hid hc; have hgw : w.heap.size ≤ g := Nat.le_trans HB1.out.size hg1; clear hb2 ho hput hc hg1))
  have HS0 : HeldB g q x w2.drew := ⟨hcell, trivial⟩
  refine region_anyL (HeldB g q x) 13 (by kernel_rfl) ?_
  refine anyL_take (i := 0) (v := ?v0_1) at0 (by kernel_rfl) (by kernel_rfl) (by kernel_rfl) (by kernel_rfl) (fun _ _ _ h => h) rfl ?y0_1 HS0 ?r0_1
  case y0_1 => intro wx hx; obtain ⟨h1, h2⟩ := hx; go_simp; try (with_reducible rfl)
  simp only [Act.put, List.setIfInBounds_toArray, List.set_cons_zero, List.set_cons_succ]
  refine anyL_take (i := 1) (v := ?v1_2) (atS at0) (by kernel_rfl) (by kernel_rfl) (by kernel_rfl) (by kernel_rfl) (fun _ _ _ h => h) rfl ?y1_2 HS0 ?r1_2
  case y1_2 => intro wx hx; obtain ⟨h1, h2⟩ := hx; go_simp; try (with_reducible rfl)
  simp only [Act.put, List.setIfInBounds_toArray, List.set_cons_zero, List.set_cons_succ]
  refine anyL_take (i := 2) (v := ?v2_3) (atS (atS at0)) (by kernel_rfl) (by kernel_rfl) (by kernel_rfl) (by kernel_rfl) (fun _ _ _ h => h) rfl ?y2_3 HS0 ?r2_3
  case y2_3 => intro wx hx; obtain ⟨h1, h2⟩ := hx; go_simp; try (with_reducible rfl)
  simp only [Act.put, List.setIfInBounds_toArray, List.set_cons_zero, List.set_cons_succ]
  refine anyL_take (i := 3) (v := ?v3_4) (atS (atS (atS at0))) (by kernel_rfl) (by kernel_rfl) (by kernel_rfl) (by kernel_rfl) (fun _ _ _ h => h) rfl ?y3_4 HS0 ?r3_4
  case y3_4 => intro wx hx; obtain ⟨h1, h2⟩ := hx; go_simp; try (with_reducible rfl)
  simp only [Act.put, List.setIfInBounds_toArray, List.set_cons_zero, List.set_cons_succ]
  refine anyL_take (i := 7) (v := ?v7_5) (atS (atS (atS (atS (atS (atS (atS at0))))))) (by kernel_rfl) (by kernel_rfl) (by kernel_rfl) (by kernel_rfl) (fun _ _ _ h => h) rfl ?y7_5 HS0 ?r7_5
  case y7_5 => intro wx hx; obtain ⟨h1, h2⟩ := hx; go_simp; try (with_reducible rfl)
  simp only [Act.put, List.setIfInBounds_toArray, List.set_cons_zero, List.set_cons_succ]
  refine anyL_one (i := 4) (atS (atS (atS (atS at0)))) (by kernel_rfl) rfl (fun K hK => ?_)
  go_simp
  refine (picked_R _ _ _ HKW.out (by omega) (by omega) _ HPK.out).mono ?_
  rintro e1 w5 ⟨rfl, rfl⟩
  refine hK _ _ (.inr HS0) ?_
  try simp only [Act.put, List.setIfInBounds_toArray, List.set_cons_zero, List.set_cons_succ]
  refine anyL_take (i := 5) (v := ?v5_6) (atS (atS (atS (atS (atS at0))))) (by kernel_rfl) (by kernel_rfl) (by kernel_rfl) (by kernel_rfl) (fun _ _ _ h => h) rfl ?y5_6 HS0 ?r5_6
  case y5_6 => intro wx hx; obtain ⟨h1, h2⟩ := hx; go_simp; try (with_reducible rfl)
  simp only [Act.put, List.setIfInBounds_toArray, List.set_cons_zero, List.set_cons_succ]
  refine anyL_take (i := 6) (v := ?v6_7) (atS (atS (atS (atS (atS (atS at0)))))) (by kernel_rfl) (by kernel_rfl) (by kernel_rfl) (by kernel_rfl) (fun _ _ _ h => h) rfl ?y6_7 HS0 ?r6_7
  case y6_7 => intro wx hx; obtain ⟨h1, h2⟩ := hx; go_simp; try (with_reducible rfl)
  simp only [Act.put, List.setIfInBounds_toArray, List.set_cons_zero, List.set_cons_succ]
  refine anyL_one (i := 8) (atS (atS (atS (atS (atS (atS (atS (atS at0)))))))) (by kernel_rfl) rfl (fun K hK => ?_)
  go_simp
  refine (picked_R _ _ _ HDW.out (by omega) (by omega) _ HPD.out).mono ?_
  rintro e1 w5 ⟨rfl, rfl⟩
  refine hK _ _ (.inr HS0) ?_
  try simp only [Act.put, List.setIfInBounds_toArray, List.set_cons_zero, List.set_cons_succ]
  refine anyL_take (i := 9) (v := ?v9_8) (atS (atS (atS (atS (atS (atS (atS (atS (atS at0))))))))) (by kernel_rfl) (by kernel_rfl) (by kernel_rfl) (by kernel_rfl) (fun _ _ _ h => h) rfl ?y9_8 HS0 ?r9_8
  case y9_8 => intro wx hx; obtain ⟨h1, h2⟩ := hx; go_simp; try (with_reducible rfl)
  simp only [Act.put, List.setIfInBounds_toArray, List.set_cons_zero, List.set_cons_succ]
  refine anyL_take (i := 10) (v := ?v10_9) (atS (atS (atS (atS (atS (atS (atS (atS (atS (atS at0)))))))))) (by kernel_rfl) (by kernel_rfl) (by kernel_rfl) (by kernel_rfl) (fun _ _ _ h => h) rfl ?y10_9 HS0 ?r10_9
  case y10_9 => intro wx hx; obtain ⟨h1, h2⟩ := hx; go_simp; try (with_reducible rfl)
  simp only [Act.put, List.setIfInBounds_toArray, List.set_cons_zero, List.set_cons_succ]
  refine anyL_take (i := 11) (v := ?v11_10) (atS (atS (atS (atS (atS (atS (atS (atS (atS (atS (atS at0))))))))))) (by kernel_rfl) (by kernel_rfl) (by kernel_rfl) (by kernel_rfl) (fun _ _ _ h => h) rfl ?y11_10 HS0 ?r11_10
  case y11_10 => intro wx hx; obtain ⟨h1, h2⟩ := hx; go_simp; try (with_reducible rfl)
  simp only [Act.put, List.setIfInBounds_toArray, List.set_cons_zero, List.set_cons_succ]
  refine anyL_one (i := 12) (atS (atS (atS (atS (atS (atS (atS (atS (atS (atS (atS (atS at0)))))))))))) (by kernel_rfl) rfl (fun K hK => ?_)
  go_simp
  refine hK _ _ (.inr HS0) ?_
  try simp only [Act.put, List.setIfInBounds_toArray, List.set_cons_zero, List.set_cons_succ]
  refine anyL_one (i := 13) (atS (atS (atS (atS (atS (atS (atS (atS (atS (atS (atS (atS (atS at0))))))))))))) (by kernel_rfl) rfl (fun K hK => ?_)
  go_simp
  refine hK _ _ (.inl rfl) (anyL_done (by kernel_rfl) (NoPanic.normal ?_))
  try simp only [Act.put, List.setIfInBounds_toArray, List.set_cons_zero, List.set_cons_succ]
  clear HS0
  have HB3 : Hid (Below w.heap.size w (w2.setCell ⟨g, q, none⟩ (.int .u8 y)).drew) := (HB2.out.setCell (p := ⟨g, q, none⟩) hgw _).drew
  have HBY : Hid (Bys (w2.setCell ⟨g, q, none⟩ (.int .u8 y)).drew (.slice (some ⟨g, 0, none⟩) n c) (L.set q y)) := (HPT.out y).bys
  go_wp2_with (first
    | (go_at_call 13; (with_reducible refine (HDC.out _ _ _ HC.out HBY.out).mono ?_); rintro e3 w3 ⟨a3, c3, rfl, hb3⟩; have HB4 : Hid (Below w.heap.size w w3) := HB3.out.trans (hb3.mono HB3.out.size); clear hb3))
  go_ret
  exact ⟨rfl, HB4.out.alloc HB4.out.size _⟩

set_option maxRecDepth 100000 in
theorem lifted (os : Os) (started : os.Started) (H : Type) (enc : TypeId × Value → H) :
    ReturnsInHanded {} Try.checked os 6 .any (Rows.packedOneSpec.pre6 enc Try.prog Try.f6 Rows.packedOneRow.domain false) (Rows.packedOneSpec.post enc Try.prog Try.f6 false true false false) := by
  refine returnsInHanded_of_change_sized (C := Try.checked) own started (by kernel_rfl) Try.func6
    (ChangeSpec.witness6 (enc := enc) (C := Try.checked) false ⟨#[], #[.agg #[.int .i64 0, .slice none 0 0], .int .i64 0, .int .i64 0], []⟩ 8 (by kernel_rfl) (by kernel_rfl) (by kernel_rfl) (by kernel_rfl)) ?_
  intro W base args ds gs before hval0 hW hcnd hsz0 _
  have hsz : (DataW.weightsEach Try.prog (Try.f6.params.toList ++ Rows.packedOneSpec.plain.varTypes Try.prog) (ds ++ gs)).all (· ≤ reachBytes) = true := hsz0
  have hval : ∀ (j : Nat) t v, Try.f6.params[j]? = some t → args[j]? = some v → Value.okWide Try.prog W .any base t v := hval0
  clear hval0 hsz0
  have hW' := hW
  obtain ⟨p, q, hA0, hV, rfl, hfz, hnd⟩ := hW
  have hA : DataW.TrodAll enc Try.prog W 0 (fun _ => true) true Try.f6.params.toList args.toList ds p := hA0
  rw [Try.params6] at hA hval hsz
  obtain ⟨v0, vs0, d0, ds0, p0, q0, hargs, rfl, rfl, h0, r0⟩ := trodAll_cons hA
  obtain ⟨v1, vs1, d1, ds1, p1, q1, rfl, rfl, rfl, h1, r1⟩ := trodAll_cons r0
  obtain ⟨v2, vs2, d2, ds2, p2, q2, rfl, rfl, rfl, h2, r2⟩ := trodAll_cons r1
  obtain ⟨rfl, rfl, rfl⟩ := trodAll_nil r2
  obtain rfl : args = #[v0, v1, v2] := by cases args; simp_all
  obtain ⟨rfl, rfl⟩ := trodVars_none hV
  have k0 := h0
  have lt0 : ∀ x ∈ p0, x.block < W.heap.size := by obtain ⟨m, hm⟩ := k0; exact DataW.trod_lt m _ _ _ hm
  obtain ⟨z0, w0⟩ : ∃ m : Rw, RawV W v0 m ∧ okR m ∧ wfR m := by
    obtain ⟨c0, c1, y0, y1, n, rfl, hd, hp, t0, t1⟩ := Go.Joins.open_agg2 Try.underlying39 (by kernel_rfl) (by kernel_rfl) (hval 0 39 v0 rfl rfl) h0
    subst hd
    exact open_raw t0 t1 ((Fits.arg hsz (j := 0) rfl rfl).field Try.underlying39 (f := 1) rfl rfl)
  obtain ⟨a1, rfl, rfl, rfl, w1⟩ := open_int Try.underlying3 (hval 1 3 v1 rfl rfl) h1
  obtain ⟨a2, rfl, rfl, rfl, w2⟩ := open_int Try.underlying3 (hval 2 3 v2 rfl rfl) h2
  refine (walk v0 z0 a1 a2 W w0 w1 w2).mono fun e W' ⟨he, bel⟩ => ?_
  subst he
  exact ⟨_, rfl, _, _, _, [], _, [], hW', trodAll_mk1 (shut_bool Try.underlying4 _), (trodAll_cons_mk (Below.trod laidOut (by kernel_rfl) (of_decide_eq_true (by kernel_rfl)) k0 bel lt0) (trodAll_cons_mk (shut_int Try.underlying3 w1) (trodAll_cons_mk (shut_int Try.underlying3 w2) trodAll_mk0))), rfl, bel.frame _, fun h => by cases h⟩
end Go.Proofs.Ytbbjpdadickilaa.packedOne
namespace Go.Proofs.Ytbbjpdadickilaa
theorem packedOne_holds : Rows.PackedOneSaid :=
  OpenClaim.holds_of_wide 6 Try.f6 rfl rfl rfl rfl rfl rfl rfl ⟨rfl, rfl, rfl, rfl, rfl⟩ rfl rfl rfl rfl rfl (by kernel_rfl) Try.func6 (by kernel_rfl)
    (of_decide_eq_true (by kernel_rfl)) (by unfold Func.isWrapper; first | (rw [if_pos (by decide +kernel)]; kernel_rfl) | (rw [if_neg (by decide +kernel)]; exact ⟨rfl, rfl⟩))
    (fun os started H enc _ => packedOne.lifted os started H enc)
#print axioms packedOne_holds
end Go.Proofs.Ytbbjpdadickilaa
