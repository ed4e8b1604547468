/- The statement LongestStands: whatever numbers a machine without cycles is made of, its longest path has fewer arcs than there are states, there is one just where there are paths, and it has arcs where there is more than one path, for every input and without any condition. -/
import Derived.Test.YtbamaolknpffgaaFw
import Derived.Test.YtbamaolknpffgaaOp
import Derived.Test.YtbamaolknpffgaaPlainOb
import Derived.Test.YtbamaolknpffgaaLo
import Derived.Lib.SmallJoins
import Derived.ChangeOld
import Derived.Below
namespace Go.Proofs.Ytbamaolknpffgaa.longestStands
open Go.ChangeShapes Go.WideShapes Go.ChangeAt Go.RowKit
open Go.Proofs.Ytbamaolknpffgaa.Pl Go.Proofs.Ytbamaolknpffgaa.Wt
set_option linter.unusedVariables false
set_option linter.unusedSimpArgs false

theorem own : ownKnob Try.prog.godebug = none := by kernel_rfl
theorem laidOut : laidOutB Try.prog = true := by kernel_rfl
theorem okF {m : Mc} (h : faultM m = 0) : okM m := by
  have h1 := right_size (z := m.1) (l := m.2) h
  refine ⟨by omega, fun j hj => ?_⟩
  have h2 := arcN_take hj
  have h3 : arcN (m.2.take (j + 1)) ≤ arcN m.2 := by
    conv => rhs; rw [← List.take_append_drop (j + 1) m.2, arcN_append]
    omega
  omega
theorem made_four (r : Rw) (full : Bool) {q : Nat} (hq : q < (madeM r 8 full).2.length) : (el (madeM r 8 full).2 q).2.length ≤ 4 := by
  unfold madeM at hq ⊢
  simp only [statesM_length] at hq ⊢
  unfold statesM
  rw [el_range_map _ hq]
  split
  · simp
  · simp [Pl.stM]; omega
theorem stands {l : List St} (h0 : 0 < l.length) (h8 : l.length ≤ 8) (hw : Fwd l) (h4 : ∀ q, q < l.length → (el l q).2.length ≤ 4) :
    ∃ (c : Nat) (y f : Int), PathAns (0, l) 0 (c : Int) 0 ∧ FarAns (0, l) 0 y f ∧ ((c = 0 ∧ y = 0 ∧ f = 12) ∨ (((c : Int) == 0) = false ∧ f = 0 ∧ 0 < y ∧ 0 ≤ y ∧ y < (l.length : Int)) ∨ (c = 1 ∧ f = 0 ∧ y = 0)) := by
  have ho := hw.order
  have hc := ho.cnt hw.to
  have hd := ho.far hw.to
  have hcb := cnt_bound hw hc h4 8 0 h0 (by omega)
  have hdb := hw.far hd 0 h0
  have hcd := far_cnt ho hw.to hc hd 0 h0
  have hpa : PathAns (0, l) 0 (cntF l (numsL l.length) 0 : Int) 0 := by
    unfold PathAns
    rw [if_pos rfl]
    refine .inl ⟨_, ho, ?_⟩
    simp only [Int.toNat_zero]
    unfold pathA
    rw [if_neg (by omega), if_neg (by omega)]
  by_cases hneg : farF l (numsL l.length) 0 < 0
  · refine ⟨_, 0, 12, hpa, ?_, .inl ⟨hcd.1 hneg, rfl, rfl⟩⟩
    unfold FarAns
    rw [if_pos rfl]
    refine .inl ⟨_, ho, ?_⟩
    simp only [Int.toNat_zero]
    unfold farA
    rw [if_pos (.inr hneg)]
  · have hfa : FarAns (0, l) 0 (farF l (numsL l.length) 0) 0 := by
      unfold FarAns
      rw [if_pos rfl]
      refine .inl ⟨_, ho, ?_⟩
      simp only [Int.toNat_zero]
      unfold farA
      rw [if_neg (fun h9 => by rcases h9 with h9 | h9; omega; exact hneg h9)]
    refine ⟨_, _, 0, hpa, hfa, .inr ?_⟩
    by_cases hz : farF l (numsL l.length) 0 = 0
    · exact .inr ⟨far_zero ho hw.to hc hd h0 hz, rfl, hz⟩
    · have h9 : cntF l (numsL l.length) 0 ≠ 0 := fun h9 => hneg (hcd.2 h9)
      have h8 : ((cntF l (numsL l.length) 0 : Nat) : Int) ≠ 0 := by omega
      exact .inl ⟨by simpa using h8, rfl, by omega, by omega, by omega⟩
theorem fwd8 (v : Value) (r : Rw) (w : World) (h : RawV w v r) (hok : okR r) (hwf : wfR r) :
    Calls Try.prog 18 #[v, .int .i64 8] w fun e w' => ∃ v', e = .returned v' ∧ Mach w' v' (fwdM (madeM r 8 false)) ∧ Below w.heap.size w w' := forward_any v r 8 w h hok hwf (by omega) (by omega)
set_option maxRecDepth 100000 in
set_option maxHeartbeats 3200000 in
theorem walk (v : Value) (m : Rw) (w : World) (h : RawV w v m ∧ okR m ∧ wfR m) :
    Calls Try.prog 7 #[v] w fun e w' => e = .returned (.bool true) ∧ Below w.heap.size w w' := by
  obtain ⟨h, hok, hwf⟩ := h
  have HI : Hid (RawV w v m) := h
  have HOK : Hid (okR m) := hok
  have HWF : Hid (wfR m) := hwf
  have hlen : (madeM m 8 false).2.length = sizeM m 8 := statesM_length _ _ _
  have hn8 : 0 < (madeM m 8 false).2.length ∧ (madeM m 8 false).2.length ≤ 8 := by rw [hlen]; unfold sizeM; omega
  have hf := fwdM_fault (madeM_right m 8 (by omega) (by omega) false) hn8.1
  have hfl := fwdM_length (madeM m 8 false)
  obtain ⟨c, y, f, hpa, hfa, hcase⟩ := stands (l := (fwdM (madeM m 8 false)).2) (by rw [hfl]; exact hn8.1) (by rw [hfl]; exact hn8.2) (fun q hq a ha => by rw [hfl] at hq ⊢; exact fwdM_later _ hq ha) (fun q hq => by
    rw [hfl] at hq
    rw [fwdM_el _ hq]
    exact Nat.le_trans (fwdR_le _ _ _) (made_four m false hq))
  have hl0 : 0 < (fwdM (madeM m 8 false)).2.length := by rw [hfl]; exact hn8.1
  have hfm : fwdM (madeM m 8 false) = (0, (fwdM (madeM m 8 false)).2) := rfl
  rw [hfm] at hf
  have HMM : Hid (fwdM (madeM m 8 false) = (0, (fwdM (madeM m 8 false)).2)) := rfl
  generalize (fwdM (madeM m 8 false)).2 = l at *
  have HF : Hid (faultM (0, l) = 0) := hf
  have HPA : Hid (PathAns (0, l) 0 (c : Int) 0) := hpa
  have HFA : Hid (FarAns (0, l) 0 y f) := hfa
  clear hok hwf hf hfl hn8 hlen hfm hpa hfa
  obtain ⟨vs, rfl, hN⟩ := h
  obtain ⟨ra, rcap, rfl, _⟩ := hN.get
  clear hN
  have HB0 : Hid (Below w.heap.size w (w.alloc (.cells #[.int .i64 m.1, .slice ra m.2.length rcap] 37))) := (Below.refl _ _).alloc (Nat.le_refl _) _
  have hl1 : (0 : Int) < (l.length : Int) := by omega
  rcases hcase with ⟨rfl, rfl, rfl⟩ | ⟨hcb, rfl, hy1, hy2, hy3⟩ | ⟨rfl, rfl, rfl⟩
  all_goals
    go_enter Try.func7, Try.ntmps7
    go_wp2_with (first
      | (go_at_call 18; (with_reducible refine (fwd8 _ m _ (HI.out.later HB0.out (Nat.le_refl _)) HOK.out HWF.out).mono ?_); rintro e w1 ⟨v1, rfl, hi, hb⟩; rw [HMM.out] at hi; have HI1 : Hid (Mach w1 v1 (0, l)) := hi; obtain ⟨vs1, rfl, hS1⟩ := hi; obtain ⟨a1, cap1, rfl⟩ := hS1.sl; simp only at HI1; clear hS1; obtain ⟨s1, b1, hb1⟩ := boxed hb (by simp); have HB1 : Hid (Below w.heap.size w w1) := hb1; clear b1 hb1 hb)
      | (go_at_call 13; (with_reducible refine (paths_any _ (0, l) _ (HI1.out.later (B := w1.heap.size) (by go_grown) (Nat.le_refl _)) (okF HF.out) 0 HF.out).mono ?_); rintro e w2 ⟨x, ec, rfl, hA, hb⟩; obtain ⟨hx, he⟩ := hA.one HPA.out; subst hx; subst he; obtain ⟨s2, b2, hb2⟩ := boxed hb (by simp); have d0 := b2.cell 0 (v := .int .i64 0) rfl; have d1 := b2.cell 1 (v := .slice a1 l.length cap1) rfl; have HI2 : Hid (Mach w2 (.agg #[.int .i64 0, .slice a1 l.length cap1]) (0, l)) := HI1.out.later hb2 (Nat.le_refl _); have HB2 : Hid (Below w.heap.size w w2) := HB1.out.trans (hb2.mono HB1.out.size); clear b2 hb2 hb hA)
      | (go_at_call 15; (with_reducible refine (longest_any _ (0, l) _ HI2.out (okF HF.out) 0 HF.out).mono ?_); rintro e w3 ⟨x3, ec3, rfl, hA, hb⟩; obtain ⟨hx, he⟩ := hA.one HFA.out; rw [hx, he]; have d0 := low d0 hb; have d1 := low d1 hb; have HB3 : Hid (Below w.heap.size w w3) := HB2.out.trans (hb.mono HB2.out.size); clear hb hA hx he))
    go_ret
    exact ⟨rfl, HB3.out⟩

set_option maxRecDepth 100000 in
theorem lifted (os : Os) (started : os.Started) (H : Type) (enc : TypeId × Value → H) :
    ReturnsInHanded {} Try.checked os 7 .any (Rows.longestStandsSpec.pre6 enc Try.prog Try.f7 Rows.longestStandsRow.domain false) (Rows.longestStandsSpec.post enc Try.prog Try.f7 false true false false) := by
  refine returnsInHanded_of_change_sized (C := Try.checked) own started (by kernel_rfl) Try.func7
    (ChangeSpec.witness6 (enc := enc) (C := Try.checked) false ⟨#[], #[.agg #[.int .i64 0, .slice none 0 0]], []⟩ 8 (by kernel_rfl) (by kernel_rfl) (by kernel_rfl) (by kernel_rfl)) ?_
  intro W base args ds gs before hval0 hW hcnd hsz0 _
  have hsz : (DataW.weightsEach Try.prog (Try.f7.params.toList ++ Rows.longestStandsSpec.plain.varTypes Try.prog) (ds ++ gs)).all (· ≤ reachBytes) = true := hsz0
  have hval : ∀ (j : Nat) t v, Try.f7.params[j]? = some t → args[j]? = some v → Value.okWide Try.prog W .any base t v := hval0
  clear hval0 hsz0
  have hW' := hW
  obtain ⟨p, q, hA0, hV, rfl, hfz, hnd⟩ := hW
  have hA : DataW.TrodAll enc Try.prog W 0 (fun _ => true) true Try.f7.params.toList args.toList ds p := hA0
  rw [Try.params7] at hA hval hsz
  obtain ⟨v0, vs0, d0, ds0, p0, q0, hargs, rfl, rfl, h0, r0⟩ := trodAll_cons hA
  obtain ⟨rfl, rfl, rfl⟩ := trodAll_nil r0
  obtain rfl : args = #[v0] := by cases args; simp_all
  obtain ⟨rfl, rfl⟩ := trodVars_none hV
  have k0 := h0
  have lt0 : ∀ x ∈ p0, x.block < W.heap.size := by obtain ⟨m, hm⟩ := k0; exact DataW.trod_lt m _ _ _ hm
  obtain ⟨z0, w0⟩ : ∃ m : Rw, RawV W v0 m ∧ okR m ∧ wfR m := by
    obtain ⟨c0, c1, y0, y1, n, rfl, hd, hp, t0, t1⟩ := Go.Joins.open_agg2 Try.underlying37 (by kernel_rfl) (by kernel_rfl) (hval 0 37 v0 rfl rfl) h0
    subst hd
    exact open_raw t0 t1 ((Fits.arg hsz (j := 0) rfl rfl).field Try.underlying37 (f := 1) rfl rfl)
  refine (walk v0 z0 W w0).mono fun e W' ⟨he, bel⟩ => ?_
  subst he
  exact ⟨_, rfl, _, _, _, [], _, [], hW', trodAll_mk1 (shut_bool Try.underlying4 _), (trodAll_cons_mk (Below.trod laidOut (by kernel_rfl) (of_decide_eq_true (by kernel_rfl)) k0 bel lt0) trodAll_mk0), rfl, bel.frame _, fun h => by cases h⟩
end Go.Proofs.Ytbamaolknpffgaa.longestStands
namespace Go.Proofs.Ytbamaolknpffgaa
theorem longestStands_holds : Rows.LongestStandsSaid :=
  OpenClaim.holds_of_wide 7 Try.f7 rfl rfl rfl rfl rfl rfl rfl ⟨rfl, rfl, rfl, rfl, rfl⟩ rfl rfl rfl rfl rfl (by kernel_rfl) Try.func7 (by kernel_rfl)
    (of_decide_eq_true (by kernel_rfl)) (by unfold Func.isWrapper; first | (rw [if_pos (by decide +kernel)]; kernel_rfl) | (rw [if_neg (by decide +kernel)]; exact ⟨rfl, rfl⟩))
    (fun os started H enc _ => longestStands.lifted os started H enc)
#print axioms longestStands_holds
end Go.Proofs.Ytbamaolknpffgaa
