/- The statement TrimAll: whatever numbers a machine is made of, in the trimmed one each state can be reached and can end, trimmed again it stays as it is, and it has no start just where it has no states, for every input and without any condition. -/
import Derived.Test.YtfkiiedbcjbkiaaMd
import Derived.Test.YtfkiiedbcjbkiaaSz
import Derived.Test.YtfkiiedbcjbkiaaPlainZd
import Derived.Test.YtfkiiedbcjbkiaaKd
import Derived.Lib.SmallJoins
import Derived.ChangeOld
import Derived.Below
namespace Go.Proofs.Ytfkiiedbcjbkiaa.trimAll
open Go.ChangeShapes Go.WideShapes Go.ChangeAt Go.RowKit
open Go.Proofs.Ytfkiiedbcjbkiaa.Pl Go.Proofs.Ytfkiiedbcjbkiaa.Wt
set_option linter.unusedVariables false
set_option linter.unusedSimpArgs false

theorem own : ownKnob Try.prog.godebug = none := by kernel_rfl
theorem laidOut : laidOutB Try.prog = true := by kernel_rfl
theorem made8 (v : Value) (r : Rw) (full : Bool) (w : World) (h : RawV w v r) (hok : okR r) (hwf : wfR r) :
    Calls Try.prog 17 #[v, .int .i64 8, .bool full] w fun e w' => ∃ v', e = .returned v' ∧ Mach w' v' (madeM r 8 full) ∧ Below w.heap.size w w' := made_any v r 8 full w h hok hwf (by omega) (by omega)
theorem all_cell {w : World} {v : Value} {n : Nat} (h : Bools w v (List.replicate n true)) : ∃ a cap, v = .slice a n cap ∧ ∀ j, j < n → ∃ b off, a = some ⟨b, off, none⟩ ∧ b < w.heap.size ∧ w.cell? ⟨b, off + j, none⟩ = some (.bool true) := by
  obtain ⟨a, cap, hv, hc⟩ := h.get
  rw [List.length_replicate] at hv hc
  refine ⟨a, cap, hv, fun j hj => ?_⟩
  obtain ⟨b, off, h1, h2, h3⟩ := hc j hj
  rw [el_true.2 hj] at h3
  exact ⟨b, off, h1, h2, h3⟩
set_option maxRecDepth 100000 in
set_option maxHeartbeats 6400000 in
theorem walk (v : Value) (m : Rw) (w : World) (h : RawV w v m ∧ okR m ∧ wfR m) :
    Calls Try.prog 6 #[v] w fun e w' => e = .returned (.bool true) ∧ Below w.heap.size w w' := by
  obtain ⟨h, hok, hwf⟩ := h
  have HI : Hid (RawV w v m) := h
  have HOK : Hid (okR m) := hok
  have HWF : Hid (wfR m) := hwf
  have hf := madeM_right m 8 (by omega) (by omega) false
  generalize hM : madeM m 8 false = M at hf
  have HMM : Hid (madeM m 8 false = M) := hM
  clear hM hok hwf
  obtain ⟨z, l⟩ := M
  have HF : Hid (faultM (z, l) = 0) := hf
  have h60 : l.length ≤ 60 := (right_size hf).1
  clear hf
  obtain ⟨vs, rfl, hN⟩ := h
  obtain ⟨ra, rcap, rfl, _⟩ := hN.get
  clear hN
  have HB0 : Hid (Below w.heap.size w (w.alloc (.cells #[.int .i64 m.1, .slice ra m.2.length rcap] 37))) := (Below.refl _ _).alloc (Nat.le_refl _) _
  have hnot : ∀ (x : Bool) (w : World), (Op.unary .not (.bool x)).run Try.prog w = .ok (.bool (!x)) w := fun _ _ => rfl
  go_enter Try.func6, Try.ntmps6
  go_wp2_with (first
    | (go_at_call 17; (with_reducible refine (made8 _ m false _ (HI.out.later HB0.out (Nat.le_refl _)) HOK.out HWF.out).mono ?_); rintro e w1 ⟨v1, rfl, hi, hb⟩; rw [HMM.out] at hi; have HI1 : Hid (Mach w1 v1 (z, l)) := hi; obtain ⟨vs1, rfl, hS1⟩ := hi; obtain ⟨a1, cap1, rfl⟩ := hS1.sl; simp only at HI1; clear hS1; obtain ⟨s1, b1, hb1⟩ := boxed hb (by simp); have HB1 : Hid (Below w.heap.size w w1) := hb1; clear b1 hb1 hb)
    | (go_at_call 15; (with_reducible refine (trim_run _ (z, l) _ (HI1.out.later (B := w1.heap.size) (by go_grown) (Nat.le_refl _)) (okRight HF.out) HF.out).mono ?_); rintro e w2 ⟨v2, rfl, ⟨aa, hA, bs, hB, hi⟩, hb⟩; obtain ⟨tz, tl, hT, hft, hta, htb, htt, hts, htn⟩ := trimmed_facts HF.out hA hB; rw [hT] at hi; have HI2 : Hid (Mach w2 v2 (tz, tl)) := hi; obtain ⟨vs2, rfl, hS2⟩ := hi; obtain ⟨a2, cap2, rfl⟩ := hS2.sl; simp only at HI2; obtain ⟨s2, b2, hb2⟩ := boxed hb (by simp); have d0 := b2.cell 0 (v := .int .i64 z) rfl; have d1 := b2.cell 1 (v := .slice a1 l.length cap1) rfl; have HFT : Hid (faultM (tz, tl) = 0) := hft; have HTA : Hid (∀ a, Least (AheadC tz tl) tl.length a → a = List.replicate tl.length true) := hta; have HTB : Hid (∀ b, Least (BackC tl) tl.length b → b = List.replicate tl.length true) := htb; have HTT : Hid (∀ a b, Least (AheadC tz tl) tl.length a → Least (BackC tl) tl.length b → trimM tz tl (keptL a b tl.length) = (tz, tl)) := htt; have HTS : Hid (tz < 0 ↔ tl.length = 0) := hts; have HB2 : Hid (Below w.heap.size w w2) := HB1.out.trans (hb2.mono HB1.out.size); clear hA hB hT hft hta htb htt hts hS2 b2 hb2 hb)
    | (go_at_call 9; (with_reducible refine (ahead_ok _ (tz, tl) _ (HI2.out.later (B := w2.heap.size) (by go_grown) (Nat.le_refl _)) (okRight HFT.out) HFT.out).mono ?_); rintro e w3 ⟨va, rfl, ⟨as3, hBa, hLa⟩, hb⟩; rw [HTA.out as3 hLa] at hBa; have HBa : Hid (Bools w3 va (List.replicate tl.length true)) := hBa; obtain ⟨xa, ca, hva, _⟩ := all_cell hBa; subst hva; obtain ⟨s3, b3, hb3⟩ := boxed hb (by simp); have k0 := b3.cell 0 (v := .int .i64 tz) rfl; have k1 := b3.cell 1 (v := .slice a2 tl.length cap2) rfl; have d0 := low d0 hb3; have d1 := low d1 hb3; have HI3 : Hid (Mach w3 (.agg #[.int .i64 tz, .slice a2 tl.length cap2]) (tz, tl)) := HI2.out.later hb3 (Nat.le_refl _); have HB3 : Hid (Below w.heap.size w w3) := HB2.out.trans (hb3.mono HB2.out.size); clear hBa hLa b3 hb3 hb)
    | (go_at_call 13; (with_reducible refine (back_ok _ (tz, tl) _ HI3.out (okRight HFT.out) HFT.out).mono ?_); rintro e w4 ⟨vb, rfl, ⟨bs4, hBb, hLb⟩, hb⟩; rw [HTB.out bs4 hLb] at hBb; have HBb : Hid (Bools w4 vb (List.replicate tl.length true)) := hBb; obtain ⟨xb, cb, hvb, _⟩ := all_cell hBb; subst hvb; have k0 := low k0 hb; have k1 := low k1 hb; have d0 := low d0 hb; have d1 := low d1 hb; have HI4 : Hid (Mach w4 (.agg #[.int .i64 tz, .slice a2 tl.length cap2]) (tz, tl)) := HI3.out.later hb (Nat.le_refl _); have HBa4 : Hid (Bools w4 (.slice xa tl.length ca) (List.replicate tl.length true)) := HBa.out.later hb (Nat.le_refl _); have HB4 : Hid (Below w.heap.size w w4) := HB3.out.trans (hb.mono HB3.out.size); clear hBb hLb hb)
    | (go_at_call 15; (with_reducible refine (trim_run _ (tz, tl) _ HI4.out (okRight HFT.out) HFT.out).mono ?_); rintro e w5 ⟨v5, rfl, ⟨aa5, hA, bs5, hB, hi⟩, hb⟩; (replace hi : Mach w5 v5 (tz, tl) := (by have h9 := hi; simp only at h9; rw [HTT.out aa5 bs5 hA hB] at h9; exact h9)); have HI5 : Hid (Mach w5 v5 (tz, tl)) := hi; obtain ⟨vs5, rfl, hS5⟩ := hi; obtain ⟨a5, cap5, rfl⟩ := hS5.sl; simp only at HI5; have k0 := low k0 hb; have k1 := low k1 hb; have d0 := low d0 hb; have d1 := low d1 hb; have HJ5 : Hid (Mach w5 (.agg #[.int .i64 tz, .slice a2 tl.length cap2]) (tz, tl)) := HI4.out.later hb (Nat.le_refl _); have HBa5 : Hid (Bools w5 (.slice xa tl.length ca) (List.replicate tl.length true)) := HBa4.out.later hb (Nat.le_refl _); have HBb5 : Hid (Bools w5 (.slice xb tl.length cb) (List.replicate tl.length true)) := HBb.out.later hb (Nat.le_refl _); have HB5 : Hid (Below w.heap.size w w5) := HB4.out.trans (hb.mono HB4.out.size); have y1 : w1.heap.size < w5.heap.size := World.block_lt_of_cell? _ _ d0; have y2 : w2.heap.size < w5.heap.size := World.block_lt_of_cell? _ _ k0; clear hA hB hS5 hb)
    | (go_at_call 18; (with_reducible refine (keepAlike_any _ _ (tz, tl) _ (HJ5.out.later (B := w5.heap.size) (by go_grown) (Nat.le_refl _)) (HI5.out.later (B := w5.heap.size) (by go_grown) (Nat.le_refl _)) (okRight HFT.out)).mono ?_); rintro e w6 ⟨rfl, hb⟩; obtain ⟨s6, b6, hb6⟩ := boxed hb (by simp); have d0 := low d0 hb6; have d1 := low d1 hb6; have k0 := low k0 hb6; have k1 := low k1 hb6; have HB6 : Hid (Below w.heap.size w w6) := HB5.out.trans (hb6.mono HB5.out.size); have HBa6 : Hid (Bools w6 (.slice xa tl.length ca) (List.replicate tl.length true)) := HBa5.out.later hb6 (Nat.le_refl _); have HBb6 : Hid (Bools w6 (.slice xb tl.length cb) (List.replicate tl.length true)) := HBb5.out.later hb6 (Nat.le_refl _); clear b6 hb6 hb))
  have HCA : Hid (∀ j, j < tl.length → ∃ b off, xa = some ⟨b, off, none⟩ ∧ b < w6.heap.size ∧ w6.cell? ⟨b, off + j, none⟩ = some (.bool true)) := by
    obtain ⟨a9, c9, hv, hc⟩ := all_cell HBa6.out
    simp only [Value.slice.injEq, true_and] at hv
    rw [hv.1]; exact hc
  have HCB : Hid (∀ j, j < tl.length → ∃ b off, xb = some ⟨b, off, none⟩ ∧ b < w6.heap.size ∧ w6.cell? ⟨b, off + j, none⟩ = some (.bool true)) := by
    obtain ⟨a9, c9, hv, hc⟩ := all_cell HBb6.out
    simp only [Value.slice.injEq, true_and] at hv
    rw [hv.1]; exact hc
  have y3 : w1.heap.size < w6.heap.size := World.block_lt_of_cell? _ _ d0
  have y4 : w2.heap.size < w6.heap.size := World.block_lt_of_cell? _ _ k0
  have htn60 : tl.length ≤ 60 := Nat.le_trans htn h60
  clear HI1 HI2 HI3 HI4 HI5 HJ5 HBa HBb HBa4 HBa5 HBb5 HBa6 HBb6 HTA HTB HTT HFT HB1 HB2 HB3 HB4 HB5
  generalize tl.length = n at *
  generalize l.length = N at *
  go_loopw [12] (fun i wr => ∃ k : Nat, k ≤ n ∧ i = .int .i64 k ∧ Hid (Below w6.heap.size w6 wr)) (fun i _ => n - (intOf i).toNat)
  case atStart => exact ⟨0, Nat.zero_le _, rfl, Below.refl _ _⟩
  case round =>
    obtain ⟨k, hk, rfl, hb⟩ := hrel
    have q0 := (hb.out.cell (p := ⟨w2.heap.size, 0, none⟩) y4).trans k0
    have q1 := (hb.out.cell (p := ⟨w2.heap.size, 1, none⟩) y4).trans k1
    have q2 := (hb.out.cell (p := ⟨w1.heap.size, 1, none⟩) y3).trans d1
    by_cases hlt : k < n
    · obtain ⟨b, off, rfl, hbl, g0⟩ := HCA.out k hlt
      obtain ⟨b2, off2, rfl, hbl2, g1⟩ := HCB.out k hlt
      have g0 := (hb.out.cell (p := ⟨b, off + k, none⟩) hbl).trans g0
      have g1 := (hb.out.cell (p := ⟨b2, off2 + k, none⟩) hbl2).trans g1
      have hk0 : (0 : Int) ≤ (k : Int) := by omega
      have hk1 : (k : Int) < (n : Int) := by omega
      go_wp2
      go_roundw
      case rel => exact ⟨k + 1, by omega, by go_num, hb⟩
      case measure => simp [intOf]; omega
    · have hnl : ¬ (k : Int) < (n : Int) := by omega
      have hle : (n : Int) ≤ (N : Int) := by omega
      by_cases hz : n = 0
      · have hz1 : tz < 0 := HTS.out.2 hz
        have hz2 : (n : Int) = 0 := by omega
        subst hz
        go_wp2
        go_ret
        exact ⟨rfl, HB6.out.trans (hb.out.mono HB6.out.size)⟩
      · have hz1 : ¬ tz < 0 := fun h9 => hz (HTS.out.1 h9)
        have hz2 : ((n : Int) == 0) = false := by have h9 : (n : Int) ≠ 0 := by omega
                                                  simpa using h9
        go_wp2
        go_ret
        exact ⟨rfl, HB6.out.trans (hb.out.mono HB6.out.size)⟩

set_option maxRecDepth 100000 in
theorem lifted (os : Os) (started : os.Started) (H : Type) (enc : TypeId × Value → H) :
    ReturnsInHanded {} Try.checked os 6 .any (Rows.trimAllSpec.pre6 enc Try.prog Try.f6 Rows.trimAllRow.domain false) (Rows.trimAllSpec.post enc Try.prog Try.f6 false true false false) := by
  refine returnsInHanded_of_change_sized (C := Try.checked) own started (by kernel_rfl) Try.func6
    (ChangeSpec.witness6 (enc := enc) (C := Try.checked) false ⟨#[], #[.agg #[.int .i64 0, .slice none 0 0]], []⟩ 8 (by kernel_rfl) (by kernel_rfl) (by kernel_rfl) (by kernel_rfl)) ?_
  intro W base args ds gs before hval0 hW hcnd hsz0 _
  have hsz : (DataW.weightsEach Try.prog (Try.f6.params.toList ++ Rows.trimAllSpec.plain.varTypes Try.prog) (ds ++ gs)).all (· ≤ reachBytes) = true := hsz0
  have hval : ∀ (j : Nat) t v, Try.f6.params[j]? = some t → args[j]? = some v → Value.okWide Try.prog W .any base t v := hval0
  clear hval0 hsz0
  have hW' := hW
  obtain ⟨p, q, hA0, hV, rfl, hfz, hnd⟩ := hW
  have hA : DataW.TrodAll enc Try.prog W 0 (fun _ => true) true Try.f6.params.toList args.toList ds p := hA0
  rw [Try.params6] at hA hval hsz
  obtain ⟨v0, vs0, d0, ds0, p0, q0, hargs, rfl, rfl, h0, r0⟩ := trodAll_cons hA
  obtain ⟨rfl, rfl, rfl⟩ := trodAll_nil r0
  obtain rfl : args = #[v0] := by cases args; simp_all
  obtain ⟨rfl, rfl⟩ := trodVars_none hV
  have k0 := h0
  have lt0 : ∀ x ∈ p0, x.block < W.heap.size := by obtain ⟨m, hm⟩ := k0; exact DataW.trod_lt m _ _ _ hm
  obtain ⟨z0, w0⟩ : ∃ m : Rw, RawV W v0 m ∧ okR m ∧ wfR m := by
    obtain ⟨c0, c1, y0, y1, n, rfl, hd, hp, t0, t1⟩ := Go.Joins.open_agg2 Try.underlying37 (by kernel_rfl) (by kernel_rfl) (hval 0 37 v0 rfl rfl) h0
    subst hd
    exact open_raw t0 t1 ((Fits.arg hsz (j := 0) rfl rfl).field Try.underlying37 (f := 1) rfl rfl)
  refine (walk v0 z0 W w0).mono fun e W' ⟨he, bel⟩ => ?_
  subst he
  exact ⟨_, rfl, _, _, _, [], _, [], hW', trodAll_mk1 (shut_bool Try.underlying4 _), (trodAll_cons_mk (Below.trod laidOut (by kernel_rfl) (of_decide_eq_true (by kernel_rfl)) k0 bel lt0) trodAll_mk0), rfl, bel.frame _, fun h => by cases h⟩
end Go.Proofs.Ytfkiiedbcjbkiaa.trimAll
namespace Go.Proofs.Ytfkiiedbcjbkiaa
theorem trimAll_holds : Rows.TrimAllSaid :=
  OpenClaim.holds_of_wide 6 Try.f6 rfl rfl rfl rfl rfl rfl rfl ⟨rfl, rfl, rfl, rfl, rfl⟩ rfl rfl rfl rfl rfl (by kernel_rfl) Try.func6 (by kernel_rfl)
    (of_decide_eq_true (by kernel_rfl)) (by unfold Func.isWrapper; first | (rw [if_pos (by decide +kernel)]; kernel_rfl) | (rw [if_neg (by decide +kernel)]; exact ⟨rfl, rfl⟩))
    (fun os started H enc _ => trimAll.lifted os started H enc)
#print axioms trimAll_holds
end Go.Proofs.Ytfkiiedbcjbkiaa
