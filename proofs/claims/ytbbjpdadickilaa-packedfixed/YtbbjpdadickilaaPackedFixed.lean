/- The statement PackedFixed: whatever bytes are given, a machine that is decoded of them is encoded as it was, for every input and without any condition. -/
import Derived.Test.YtbbjpdadickilaaEp
import Derived.Test.YtbbjpdadickilaaBq
import Derived.Test.YtbbjpdadickilaaPlainUr
import Derived.Test.YtbbjpdadickilaaLo
import Derived.ShutString
import Derived.SizedLaws
import Derived.ChangeOld
import Derived.Below
namespace Go.Proofs.Ytbbjpdadickilaa.packedFixed
open Go.ChangeShapes Go.WideShapes Go.ChangeAt Go.RowKit
open Go.Proofs.Ytbbjpdadickilaa.Pl Go.Proofs.Ytbbjpdadickilaa.Wt
set_option linter.unusedVariables false

theorem own : ownKnob Try.prog.godebug = none := by kernel_rfl
theorem laidOut : laidOutB Try.prog = true := by kernel_rfl
set_option maxRecDepth 100000 in
theorem core (a : Option Addr) (cap : Nat) (l : List Int) (w : World) (h : Bys w (.slice a l.length cap) l) (hbb : bytesB l) (hcap : l.length ≤ cap) (hl : l.length ≤ 140737488351232) :
    Calls Try.prog 5 #[.slice a l.length cap] w fun e w' => e = .returned (.bool true) ∧ Below w.heap.size w w' := by
  obtain ⟨m, ec, hA⟩ := UnpAns.exists l
  have HK : Hid (okM m) := hA.ok
  have HI : Hid (Bys w (.slice a l.length cap) l) := h
  obtain ⟨a1, c1, w1, hr1, ho1, hb1⟩ := copy_bys h hl
  have R1 := hid hr1
  have HB1 : Hid (Below w.heap.size w w1) := hb1
  have HP : Hid (Calls Try.prog 13 #[.slice a1 l.length c1] w1 fun e w' => ∃ v, e = .returned (.tuple #[v, .int .i64 ec]) ∧ Mach w' v m ∧ Below w1.heap.size w1 w') := (decodeP_any a1 c1 l w1 ho1.bys hbb ho1.cap.2).mono fun e w' ⟨v, m', ec', he, hm, ha, hb⟩ => by
    obtain ⟨h1, h2⟩ := ha.one hA
    subst h1 h2
    exact ⟨v, he, hm, hb⟩
  clear hr1 ho1 hb1 h hl hcap
  by_cases h0 : ec = 0
  · subst h0
    obtain ⟨hf, ht⟩ := hA.fixed hbb
    have HF : Hid (faultM m = 0) := hf
    have HT : Hid (packM m = l) := ht
    have ht1 : ((strOfNums l).toList == (strOfNums l).toList) = true := by simp
    clear hA hf ht hbb
    go_enter Try.func5, Try.ntmps5
    go_wp2_with (first
      | (at_builtin; refine wpListAppendRun rfl _ _ 26 rfl rfl rfl R1.out ?_; clear R1)
      | (go_at_call 13; (with_reducible refine HP.out.mono ?_); rintro e w2 ⟨v2, rfl, hm2, hb2⟩; have HM2 : Hid (Mach w2 v2 m) := hm2; obtain ⟨vs2, rfl, hS2⟩ := hm2; obtain ⟨a2, c2, rfl⟩ := hS2.sl; clear hS2; have HB2 : Hid (Below w.heap.size w w2) := HB1.out.trans (hb2.mono HB1.out.size); clear hb2)
      | (go_at_call 8; (with_reducible refine (encodeP_any _ m _ (HM2.out.later (B := w2.heap.size) (by go_grown) (Nat.le_refl _)) HK.out).mono ?_); rintro e w3 ⟨v3, he, ho, hb⟩; rw [HF.out] at he ho; rw [if_pos rfl, HT.out] at ho; subst he; obtain ⟨s3, b3, hb3⟩ := boxed hb (by simp); have HB3 : Hid (Below w.heap.size w w3) := HB2.out.trans (hb3.mono HB2.out.size); have hc1 := conv_bys ho.bys; have hc2 := conv_bys (HI.out.later HB3.out (Nat.le_refl _)); obtain ⟨a3, n3, c3, hv3⟩ := ho.sl; subst hv3; clear b3 hb3 hb ho))
    go_ret
    exact ⟨rfl, HB3.out⟩
  · have hz := hA.err h0
    subst hz
    have h0b : (ec != 0) = true := by simp [h0]
    clear hA hbb
    go_enter Try.func5, Try.ntmps5
    go_wp2_with (first
      | (at_builtin; refine wpListAppendRun rfl _ _ 26 rfl rfl rfl R1.out ?_; clear R1)
      | (go_at_call 13; (with_reducible refine HP.out.mono ?_); rintro e w2 ⟨v2, rfl, hm2, hb2⟩; obtain ⟨vs2, rfl, hS2⟩ := hm2; obtain ⟨a2, c2, rfl⟩ := hS2.sl; clear hS2; have HB2 : Hid (Below w.heap.size w w2) := HB1.out.trans (hb2.mono HB1.out.size); clear hb2))
    go_ret
    exact ⟨rfl, HB2.out.alloc HB2.out.size _⟩
theorem walk (a0 : Option Addr) (len0 cap0 : Nat) (z0 : List Int) (w : World) (w0 : IsRow .u8 w a0 len0 cap0 z0 ∧ cap0 * 1 ≤ 140737488351232) :
    Calls Try.prog 5 #[.slice a0 len0 cap0] w fun e w' => e = .returned (.bool true) ∧ Below w.heap.size w w' := by
  obtain ⟨h1, h2, h3⟩ := Ints.ofRow w0.1
  have h4 := core a0 cap0 (z0.take len0) w (by rw [h2]; exact Bys.ofInts h1) (row_bytes w0.1) (by omega) (by have := w0.2; omega)
  rw [h2] at h4
  exact h4

set_option maxRecDepth 100000 in
theorem lifted (os : Os) (started : os.Started) (H : Type) (enc : TypeId × Value → H) :
    ReturnsInHanded {} Try.checked os 5 .any (Rows.packedFixedSpec.pre6 enc Try.prog Try.f5 Rows.packedFixedRow.domain false) (Rows.packedFixedSpec.post enc Try.prog Try.f5 false true false false) := by
  refine returnsInHanded_of_change_sized (C := Try.checked) own started (by kernel_rfl) Try.func5
    (ChangeSpec.witness6 (enc := enc) (C := Try.checked) false ⟨#[], #[.slice none 0 0], []⟩ 8 (by kernel_rfl) (by kernel_rfl) (by kernel_rfl) (by kernel_rfl)) ?_
  intro W base args ds gs before hval0 hW hcnd hsz0 _
  have hsz : (DataW.weightsEach Try.prog (Try.f5.params.toList ++ Rows.packedFixedSpec.plain.varTypes Try.prog) (ds ++ gs)).all (· ≤ reachBytes) = true := hsz0
  have hval : ∀ (j : Nat) t v, Try.f5.params[j]? = some t → args[j]? = some v → Value.okWide Try.prog W .any base t v := hval0
  clear hval0 hsz0
  have hW' := hW
  obtain ⟨p, q, hA0, hV, rfl, hfz, hnd⟩ := hW
  have hA : DataW.TrodAll enc Try.prog W 0 (fun _ => true) true Try.f5.params.toList args.toList ds p := hA0
  rw [Try.params5] at hA hval hsz
  obtain ⟨v0, vs0, d0, ds0, p0, q0, hargs, rfl, rfl, h0, r0⟩ := trodAll_cons hA
  obtain ⟨rfl, rfl, rfl⟩ := trodAll_nil r0
  obtain rfl : args = #[v0] := by cases args; simp_all
  obtain ⟨rfl, rfl⟩ := trodVars_none hV
  obtain ⟨a0, len0, cap0, rfl⟩ := okWide_slice Try.underlying26 (hval 0 26 v0 rfl rfl)
  have k0 := h0
  have lt0 : ∀ x ∈ p0, x.block < W.heap.size := by obtain ⟨m, hm⟩ := k0; exact DataW.trod_lt m _ _ _ hm
  obtain ⟨z0, w0⟩ : ∃ zs, IsRow .u8 W a0 len0 cap0 zs ∧ cap0 * 1 ≤ 140737488351232 := by
    obtain ⟨fuel, hf⟩ := h0
    rcases open_ints Try.underlying26 Try.underlying5 (by kernel_rfl) hf with ⟨hcs, _⟩ | ⟨x, l, c, zs, hcs, _, hl, hm, hz, hx, hcell, hwz⟩
    · simp [Value.cells] at hcs
      obtain ⟨rfl, rfl, rfl⟩ := hcs
      exact ⟨[], .inl ⟨rfl, rfl, rfl, rfl⟩, by omega⟩
    · have hd := congrArg Prod.fst hx
      have hsw := sized_slice hsz (j := 0) (t := 26) (e := 5) rfl (congrArg some hd) Try.underlying26
      have hby : Try.prog.bytesOf 5 = 1 := by kernel_rfl
      rw [hby] at hsw
      simp [Value.cells] at hcs
      obtain ⟨rfl, rfl, rfl⟩ := hcs
      have hz' : zs.length = cap0 := by simpa using hz
      simp only [lits, List.length_map, List.length_take, List.length_drop, reachBytes] at hsw
      exact ⟨zs, .inr ⟨_, rfl, hl, hm, hz', hcell, hwz⟩, by omega⟩
  refine (walk a0 len0 cap0 z0 W w0).mono fun e W' ⟨he, bel⟩ => ?_
  subst he
  exact ⟨_, rfl, _, _, _, [], _, [], hW', trodAll_mk1 (shut_bool Try.underlying4 _), (trodAll_cons_mk (Below.trod laidOut (by kernel_rfl) (of_decide_eq_true (by kernel_rfl)) k0 bel lt0) trodAll_mk0), rfl, bel.frame _, fun h => by cases h⟩
end Go.Proofs.Ytbbjpdadickilaa.packedFixed
namespace Go.Proofs.Ytbbjpdadickilaa
theorem packedFixed_holds : Rows.PackedFixedSaid :=
  OpenClaim.holds_of_wide 5 Try.f5 rfl rfl rfl rfl rfl rfl rfl ⟨rfl, rfl, rfl, rfl, rfl⟩ rfl rfl rfl rfl rfl (by kernel_rfl) Try.func5 (by kernel_rfl)
    (of_decide_eq_true (by kernel_rfl)) (by unfold Func.isWrapper; first | (rw [if_pos (by decide +kernel)]; kernel_rfl) | (rw [if_neg (by decide +kernel)]; exact ⟨rfl, rfl⟩))
    (fun os started H enc _ => packedFixed.lifted os started H enc)
#print axioms packedFixed_holds
end Go.Proofs.Ytbbjpdadickilaa
