/- The statement PackedDecodes: whatever bytes are given, the program's Decode and the document's answer agree and the bytes are not changed, for every input and without any condition. -/
import Derived.Test.YtbbjpdadickilaaEp
import Derived.Test.YtbbjpdadickilaaUp
import Derived.Test.YtbbjpdadickilaaBq
import Derived.Test.YtbbjpdadickilaaPlainUr
import Derived.Test.YtbbjpdadickilaaMcS
import Derived.Test.YtbbjpdadickilaaLo
import Derived.ShutString
import Derived.SizedLaws
import Derived.ChangeOld
import Derived.Below
namespace Go.Proofs.Ytbbjpdadickilaa.packedDecodes
open Go.ChangeShapes Go.WideShapes Go.ChangeAt Go.RowKit
open Go.Proofs.Ytbbjpdadickilaa.Pl Go.Proofs.Ytbbjpdadickilaa.Wt
set_option linter.unusedVariables false

theorem own : ownKnob Try.prog.godebug = none := by kernel_rfl
theorem laidOut : laidOutB Try.prog = true := by kernel_rfl
set_option maxRecDepth 100000 in
theorem core (a : Option Addr) (cap : Nat) (l : List Int) (w : World) (h : Bys w (.slice a l.length cap) l) (hbb : bytesB l) (hcap : l.length ≤ cap) (hl : l.length ≤ 140737488351232) :
    Calls Try.prog 4 #[.slice a l.length cap] w fun e w' => e = .returned (.bool true) ∧ Below w.heap.size w w' := by
  have HI : Hid (Bys w (.slice a l.length cap) l) := h
  have HOC : Hid (Calls Try.prog 12 #[.slice a l.length cap] w fun e w' => ∃ a c, e = .returned (.slice a l.length c) ∧ l.length ≤ c ∧ OwnBys w' w.heap.size (.slice a l.length c) l ∧ Below w.heap.size w w') := octets_any _ l w h hl
  have HP : Hid (∀ W a1 c1, Bys W (.slice a1 l.length c1) l → l.length ≤ c1 → Calls Try.prog 13 #[.slice a1 l.length c1] W fun e w' => UnpRes l W e w') := fun W a1 c1 h1 h2 => decodeP_any a1 c1 l W h1 hbb h2
  have HR : Hid (∀ W, Bys W (.slice a l.length cap) l → Calls Try.prog 14 #[.slice a l.length cap] W fun e w' => UnpRes l W e w') := fun W h1 => unpackedR_any a cap l W h1 hbb hcap
  clear h hbb hcap hl
  go_enter Try.func4, Try.ntmps4
  go_wp2_with (first
    | (go_at_call 12; (with_reducible refine HOC.out.mono ?_); rintro e w1 ⟨a1, c1, rfl, hc1, ho, hb⟩; have HO1 := hid ho.bys; have HC1 := hid hc1; have HB1 : Hid (Below w.heap.size w w1) := hb; clear ho hc1 hb)
    | (go_at_call 13; (with_reducible refine (HP.out _ _ _ HO1.out HC1.out).mono ?_); rintro e w2 ⟨v2, m2, ec2, rfl, hm2, ha2, hb2⟩; have HM2 : Hid (Mach w2 v2 m2) := hm2; have HA2 : Hid (UnpAns l m2 ec2) := ha2; have HK : Hid (okM m2) := ha2.ok; obtain ⟨vs2, rfl, hS2⟩ := hm2; obtain ⟨a2, c2, rfl⟩ := hS2.sl; clear hS2; have HB2 : Hid (Below w1.heap.size w1 w2) := hb2; have HB2' : Hid (Below w.heap.size w w2) := HB1.out.trans (hb2.mono HB1.out.size); have HI2 : Hid (∀ o, Bys (w2.alloc o) (.slice a l.length cap) l) := (fun o => HI.out.later (HB2'.out.alloc HB2'.out.size o) (Nat.le_refl _)); clear hb2 ha2)
    | (go_at_call 14; (with_reducible refine (HR.out _ (HI2.out _)).mono ?_); rintro e w3 ⟨v3, m3, ec3, rfl, hm3, ha3, hb⟩; obtain ⟨hmm, hee⟩ := ha3.one HA2.out; subst hmm hee; have HM3 : Hid (Mach w3 v3 m3) := hm3; obtain ⟨vs3, rfl, hS3⟩ := hm3; obtain ⟨a3, c3, rfl⟩ := hS3.sl; clear hS3; obtain ⟨s3, b3, hb3⟩ := boxed hb (by simp); have d0 := fun o => (b3.alloc o).cell 0 (v := .int .i64 m3.1) rfl; have d1 := fun o => (b3.alloc o).cell 1 (v := .slice a2 m3.2.length c2) rfl; have d2 : w2.heap.size < w3.heap.size := s3; have HB3 : Hid (Below w2.heap.size w2 w3) := hb3; have HB3' : Hid (Below w.heap.size w w3) := HB2'.out.trans (hb3.mono HB2'.out.size); have HB31 : Hid (Below w1.heap.size w1 w3) := HB2.out.trans (hb3.mono HB2.out.size); clear b3 hb3 hb ha3)
    | (go_at_call 11; (with_reducible refine (sameMachine_any _ _ m3 _ (HM2.out.later (B := w2.heap.size) (HB3.out.trans (by go_grown)) (Nat.le_refl _)) (HM3.out.later (B := w3.heap.size) (by go_grown) (Nat.le_refl _)) HK.out).mono ?_); rintro e w5 ⟨rfl, hb5⟩; have HB5 : Hid (Below w.heap.size w w5) := (HB3'.out.alloc HB3'.out.size _).trans (hb5.mono (by simp; exact Nat.le_succ_of_le HB3'.out.size)); have HB51 : Hid (Below w1.heap.size w1 w5) := (HB31.out.alloc HB31.out.size _).trans (hb5.mono (by simp; exact Nat.le_succ_of_le HB31.out.size)); clear hb5)
    | (go_at_call 10; (with_reducible refine (sameBytes_any _ _ _ _ (HO1.out.later HB51.out (Nat.le_refl _)) (HI.out.later HB5.out (Nat.le_refl _))).mono ?_); rintro e w6 ⟨rfl, rfl⟩))
  go_ret
  exact ⟨rfl, HB5.out⟩
theorem walk (a0 : Option Addr) (len0 cap0 : Nat) (z0 : List Int) (w : World) (w0 : IsRow .u8 w a0 len0 cap0 z0 ∧ cap0 * 1 ≤ 140737488351232) :
    Calls Try.prog 4 #[.slice a0 len0 cap0] w fun e w' => e = .returned (.bool true) ∧ Below w.heap.size w w' := by
  obtain ⟨h1, h2, h3⟩ := Ints.ofRow w0.1
  have h4 := core a0 cap0 (z0.take len0) w (by rw [h2]; exact Bys.ofInts h1) (row_bytes w0.1) (by omega) (by have := w0.2; omega)
  rw [h2] at h4
  exact h4

set_option maxRecDepth 100000 in
theorem lifted (os : Os) (started : os.Started) (H : Type) (enc : TypeId × Value → H) :
    ReturnsInHanded {} Try.checked os 4 .any (Rows.packedDecodesSpec.pre6 enc Try.prog Try.f4 Rows.packedDecodesRow.domain false) (Rows.packedDecodesSpec.post enc Try.prog Try.f4 false true false false) := by
  refine returnsInHanded_of_change_sized (C := Try.checked) own started (by kernel_rfl) Try.func4
    (ChangeSpec.witness6 (enc := enc) (C := Try.checked) false ⟨#[], #[.slice none 0 0], []⟩ 8 (by kernel_rfl) (by kernel_rfl) (by kernel_rfl) (by kernel_rfl)) ?_
  intro W base args ds gs before hval0 hW hcnd hsz0 _
  have hsz : (DataW.weightsEach Try.prog (Try.f4.params.toList ++ Rows.packedDecodesSpec.plain.varTypes Try.prog) (ds ++ gs)).all (· ≤ reachBytes) = true := hsz0
  have hval : ∀ (j : Nat) t v, Try.f4.params[j]? = some t → args[j]? = some v → Value.okWide Try.prog W .any base t v := hval0
  clear hval0 hsz0
  have hW' := hW
  obtain ⟨p, q, hA0, hV, rfl, hfz, hnd⟩ := hW
  have hA : DataW.TrodAll enc Try.prog W 0 (fun _ => true) true Try.f4.params.toList args.toList ds p := hA0
  rw [Try.params4] at hA hval hsz
  obtain ⟨v0, vs0, d0, ds0, p0, q0, hargs, rfl, rfl, h0, r0⟩ := trodAll_cons hA
  obtain ⟨rfl, rfl, rfl⟩ := trodAll_nil r0
  obtain rfl : args = #[v0] := by cases args; simp_all
  obtain ⟨rfl, rfl⟩ := trodVars_none hV
  obtain ⟨a0, len0, cap0, rfl⟩ := okWide_slice Try.underlying26 (hval 0 26 v0 rfl rfl)
  have k0 := h0
  have lt0 : ∀ x ∈ p0, x.block < W.heap.size := by obtain ⟨m, hm⟩ := k0; exact DataW.trod_lt m _ _ _ hm
  obtain ⟨z0, w0⟩ : ∃ zs, IsRow .u8 W a0 len0 cap0 zs ∧ cap0 * 1 ≤ 140737488351232 := by
    obtain ⟨fuel, hf⟩ := h0
    rcases open_ints Try.underlying26 Try.underlying5 (by kernel_rfl) hf with ⟨hcs, _⟩ | ⟨x, l, c, zs, hcs, _, hl, hm, hz, hx, hcell, hwz⟩
    · simp [Value.cells] at hcs
      obtain ⟨rfl, rfl, rfl⟩ := hcs
      exact ⟨[], .inl ⟨rfl, rfl, rfl, rfl⟩, by omega⟩
    · have hd := congrArg Prod.fst hx
      have hsw := sized_slice hsz (j := 0) (t := 26) (e := 5) rfl (congrArg some hd) Try.underlying26
      have hby : Try.prog.bytesOf 5 = 1 := by kernel_rfl
      rw [hby] at hsw
      simp [Value.cells] at hcs
      obtain ⟨rfl, rfl, rfl⟩ := hcs
      have hz' : zs.length = cap0 := by simpa using hz
      simp only [lits, List.length_map, List.length_take, List.length_drop, reachBytes] at hsw
      exact ⟨zs, .inr ⟨_, rfl, hl, hm, hz', hcell, hwz⟩, by omega⟩
  refine (walk a0 len0 cap0 z0 W w0).mono fun e W' ⟨he, bel⟩ => ?_
  subst he
  exact ⟨_, rfl, _, _, _, [], _, [], hW', trodAll_mk1 (shut_bool Try.underlying4 _), (trodAll_cons_mk (Below.trod laidOut (by kernel_rfl) (of_decide_eq_true (by kernel_rfl)) k0 bel lt0) trodAll_mk0), rfl, bel.frame _, fun h => by cases h⟩
end Go.Proofs.Ytbbjpdadickilaa.packedDecodes
namespace Go.Proofs.Ytbbjpdadickilaa
theorem packedDecodes_holds : Rows.PackedDecodesSaid :=
  OpenClaim.holds_of_wide 4 Try.f4 rfl rfl rfl rfl rfl rfl rfl ⟨rfl, rfl, rfl, rfl, rfl⟩ rfl rfl rfl rfl rfl (by kernel_rfl) Try.func4 (by kernel_rfl)
    (of_decide_eq_true (by kernel_rfl)) (by unfold Func.isWrapper; first | (rw [if_pos (by decide +kernel)]; kernel_rfl) | (rw [if_neg (by decide +kernel)]; exact ⟨rfl, rfl⟩))
    (fun os started H enc _ => packedDecodes.lifted os started H enc)
#print axioms packedDecodes_holds
end Go.Proofs.Ytbbjpdadickilaa
