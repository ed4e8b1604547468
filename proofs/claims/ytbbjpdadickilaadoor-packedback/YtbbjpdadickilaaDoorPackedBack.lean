/- The statement PackedBack: whatever machine is given, it is decoded as it was encoded and its text is the same, for every input and without any condition (where the table of powers of ten that the standard library reads is as its text lays it: that is the card's tie). -/
import Derived.Test.YtbbjpdadickilaaDoorCards
import Derived.Test.YtbbjpdadickilaaDoorTie
import Derived.Test.YtbbjpdadickilaaDoorEp
import Derived.Test.YtbbjpdadickilaaDoorPlainUp
import Derived.Test.YtbbjpdadickilaaDoorBq
import Derived.Test.YtbbjpdadickilaaDoorMcO
import Derived.Test.YtbbjpdadickilaaDoorPp
import Derived.Test.YtbbjpdadickilaaDoorLo
import Derived.Test.YtbbjpdadickilaaDoorMcV
import Derived.Test.YtbbjpdadickilaaDoorKd
import Derived.Lib.SmallJoins
import Derived.ChangeOld
import Derived.Below
import Derived.Deep.DeepHandedRow
import Derived.Stop.LaidErr
namespace Go.Proofs.YtbbjpdadickilaaDoor.packedBack
open Go.ChangeShapes Go.WideShapes Go.ChangeAt Go.RowKit
open Go.Proofs.YtbbjpdadickilaaDoor.Pl Go.Proofs.YtbbjpdadickilaaDoor.Wt
set_option linter.unusedVariables false

theorem own : ownKnob Tryd.prog.godebug = none := by kernel_rfl
theorem laidOut : laidOutB Tryd.prog = true := by kernel_rfl
set_option maxRecDepth 100000 in
theorem walk (v : Value) (m : Mc) (w : World) (h : Mach w v m ∧ okM m ∧ (Lit.int .i64 m.1).wf = true ∧ ∀ s ∈ m.2, (Lit.int .i64 s.1).wf = true ∧ ∀ a ∈ s.2, wfA a) (htab : Tab w) :
    Calls Tryd.prog 3 #[v] w fun e w' => e = .returned (.bool true) ∧ Below w.heap.size w w' := by
  obtain ⟨h, hok, _⟩ := h
  have HI : Hid (Mach w v m) := h
  have HK : Hid (okM m) := hok
  have HTB : Hid (Tab w) := htab
  obtain ⟨r, hr⟩ : ∃ r, faultM m = r := ⟨_, rfl⟩
  have HR : Hid (faultM m = r) := hr
  obtain ⟨T, hT⟩ : ∃ T, textS (shownT m r) = T := ⟨_, rfl⟩
  have HT : Hid (textS (shownT m r) = T) := hT
  have HB0 : Hid (∀ o : Obj, Below w.heap.size w (w.alloc o)) := fun o => (Below.refl _ _).alloc (Nat.le_refl _) _
  obtain ⟨vs, rfl, hS⟩ := h
  obtain ⟨a, cap, rfl⟩ := hS.sl
  clear hS hok htab
  by_cases h0 : r = 0
  · subst h0
    have HP : Hid (∀ (W : World) (a1 : Option Addr) (n1 k1 : Nat), Bys W (.slice a1 n1 k1) (packM m) → n1 = (packM m).length ∧ n1 ≤ k1 → Calls Tryd.prog 6 #[.slice a1 n1 k1] W fun e w' => ∃ v, e = .returned (.tuple #[v, .int .i64 0]) ∧ Mach w' v m ∧ Below W.heap.size W w') := by
      rintro W a1 n1 k1 hB ⟨rfl, hc⟩
      exact (decodeP_any a1 k1 (packM m) W hB (packM_bytes hr) hc).mono fun e w' ⟨v, m', ec', he, hm, ha, hb⟩ => by
        obtain ⟨h1, h2⟩ := UnpAns.back hr ha
        subst h1 h2
        exact ⟨v, he, hm, hb⟩
    have hTT : (T.toList == T.toList) = true := beq_self_eq_true _
    clear hT hr
    go_enter Tryd.func3, Tryd.ntmps3
    go_wp2_with (first
      | (go_at_call 4; (with_reducible refine (encodeP_any _ m _ (HI.out.later (HB0.out _) (Nat.le_refl _)) HK.out).mono ?_); rintro e w1 ⟨v1, he, ho, hb⟩; rw [HR.out] at he ho; rw [if_pos rfl] at ho; subst he; obtain ⟨s1, b1, hb1⟩ := boxed hb (by simp); have c0 := b1.cell 0 (v := .int .i64 m.1) rfl; have c1 := b1.cell 1 (v := .slice a m.2.length cap) rfl; have K1 : Hid (Blk w1 w.heap.size #[.int .i64 m.1, .slice a m.2.length cap] 24) := b1; have HB1 : Hid (Below w.heap.size w w1) := hb1; obtain ⟨a1, n1, k1, hv1⟩ := ho.sl; subst hv1; have HC1 := hid ho.cap; have HO1 := hid ho.bys; clear b1 hb1 hb ho)
      | (go_at_call 5; (with_reducible refine (coreCheck_any _ m _ (HI.out.later HB1.out (Nat.le_refl _)) HK.out 0 HR.out).mono ?_); rintro e w2 ⟨rfl, hb⟩; have HB2 : Hid (Below w.heap.size w w2) := HB1.out.trans (hb.mono HB1.out.size); have K2 : Hid (Blk w2 w.heap.size #[.int .i64 m.1, .slice a m.2.length cap] 24) := K1.out.below hb K1.out.lt; have HO2 := hid (HO1.out.later hb (Nat.le_refl _)); clear hb)
      | (go_at_call 6; (with_reducible refine (HP.out _ _ _ _ HO2.out HC1.out).mono ?_); rintro e w3 ⟨v3, rfl, hm3, hb⟩; have HM3 : Hid (Mach w3 v3 m) := hm3; obtain ⟨vs3, rfl, hS3⟩ := hm3; obtain ⟨a3, c3, rfl⟩ := hS3.sl; clear hS3; have HB3 : Hid (Below w.heap.size w w3) := HB2.out.trans (hb.mono HB2.out.size); have K3 : Hid (Blk w3 w.heap.size #[.int .i64 m.1, .slice a m.2.length cap] 24) := K2.out.below hb K2.out.lt; have d2 := K3.out.lt; have HT3 : Hid (∀ o, Tab (w3.alloc o)) := (fun o => HTB.out.later (HB3.out.alloc HB3.out.size o)); clear hb)
      | (go_at_call 7; (with_reducible refine (showP_any _ m _ (HM3.out.later (B := w3.heap.size) (by go_grown) (Nat.le_refl _)) HK.out 0 HR.out (HT3.out _)).mono ?_); rintro e w4 ⟨he, hb⟩; rw [HT.out] at he; subst he; have K4 : Hid (Blk w4 w.heap.size #[.int .i64 m.1, .slice a m.2.length cap] 24) := (K3.out.alloc _).below hb (K3.out.alloc _).lt; obtain ⟨s4, b4, hb4⟩ := boxed hb (by simp); have HB4 : Hid (Below w.heap.size w w4) := HB3.out.trans (hb4.mono HB3.out.size); have HM4 := hid (HM3.out.later hb4 (Nat.le_refl _)); have J4 : Hid (Blk w4 w3.heap.size #[.int .i64 m.1, .slice a3 m.2.length c3] 24) := b4; have d3 := K4.out.cell 0 (v := .int .i64 m.1) rfl; have d4 := K4.out.cell 1 (v := .slice a m.2.length cap) rfl; have d5 := K4.out.lt; clear b4 hb4 hb)
      | (go_at_call 7; (with_reducible refine (showP_any _ m _ (HI.out.later HB4.out (Nat.le_refl _)) HK.out 0 HR.out (HTB.out.later HB4.out)).mono ?_); rintro e w5 ⟨he, hb⟩; rw [HT.out] at he; subst he; have K5 : Hid (Blk w5 w.heap.size #[.int .i64 m.1, .slice a m.2.length cap] 24) := K4.out.below hb K4.out.lt; have J5 : Hid (Blk w5 w3.heap.size #[.int .i64 m.1, .slice a3 m.2.length c3] 24) := J4.out.below hb J4.out.lt; have HB5 : Hid (Below w.heap.size w w5) := HB4.out.trans (hb.mono HB4.out.size); have HM5 := hid (HM4.out.later hb (Nat.le_refl _)); have f0 := K5.out.cell 0 (v := .int .i64 m.1) rfl; have f1 := K5.out.cell 1 (v := .slice a m.2.length cap) rfl; have f2 := K5.out.lt; have f3 := J5.out.cell 0 (v := .int .i64 m.1) rfl; have f4 := J5.out.cell 1 (v := .slice a3 m.2.length c3) rfl; have f5 := J5.out.lt; clear hb)
      | (go_at_call 8; (with_reducible refine (keepAlike_any _ _ m _ HM5.out (HI.out.later HB5.out (Nat.le_refl _)) HK.out).mono ?_); rintro e w6 ⟨rfl, hb6⟩; have HB6 : Hid (Below w.heap.size w w6) := HB5.out.trans (hb6.mono HB5.out.size); clear hb6))
    go_ret
    exact ⟨rfl, HB6.out⟩
  · have h0b : (r != 0) = true := by simp [h0]
    clear hT hr
    go_enter Tryd.func3, Tryd.ntmps3
    go_wp2_with (first
      | (go_at_call 4; (with_reducible refine (encodeP_any _ m _ (HI.out.later (HB0.out _) (Nat.le_refl _)) HK.out).mono ?_); rintro e w1 ⟨v1, he, ho, hb⟩; rw [HR.out] at he ho; rw [if_neg h0] at ho; subst he; obtain ⟨s1, b1, hb1⟩ := boxed hb (by simp); have c0 := b1.cell 0 (v := .int .i64 m.1) rfl; have c1 := b1.cell 1 (v := .slice a m.2.length cap) rfl; have K1 : Hid (Blk w1 w.heap.size #[.int .i64 m.1, .slice a m.2.length cap] 24) := b1; have HB1 : Hid (Below w.heap.size w w1) := hb1; obtain ⟨a1, n1, k1, hv1⟩ := ho.sl; subst hv1; have hn1 : n1 = 0 := ho.cap.1; subst hn1; clear b1 hb1 hb ho)
      | (go_at_call 5; (with_reducible refine (coreCheck_any _ m _ (HI.out.later HB1.out (Nat.le_refl _)) HK.out r HR.out).mono ?_); rintro e w2 ⟨rfl, hb⟩; have HB2 : Hid (Below w.heap.size w w2) := HB1.out.trans (hb.mono HB1.out.size); clear hb))
    go_ret
    exact ⟨rfl, HB2.out⟩
theorem gTab : Tryd.prog.globalNamed "internal/strconv.uint64pow10" = some 0 := by kernel_rfl
theorem gTabType : (Tryd.prog.globals[0]?).map (·.type) = some 97 := by kernel_rfl
theorem cellsT : Tryd.prog.cellsOf 97 = 20 := by kernel_rfl
theorem cellsE : Tryd.prog.cellsOf 90 = 1 := by kernel_rfl
theorem tabEq : (Rows.laid_internal_strconv_uint64pow10 : DataW Unit) = Lib.tabData .u64 Lib.pow10Tab := by kernel_rfl
theorem tabOf {W : World} (h : laidMetH Tryd.prog Rows.packedBackRow.laid W) : Tab W := by
  have h1 : laidMet Tryd.prog [("math/bits.deBruijn32tab", Rows.laid_math_bits_deBruijn32tab), ("math/bits.deBruijn64tab", Rows.laid_math_bits_deBruijn64tab), ("internal/strconv.uint64pow10", Rows.laid_internal_strconv_uint64pow10)] W := h
  have h2 : laidMet Tryd.prog [("internal/strconv.uint64pow10", Rows.laid_internal_strconv_uint64pow10)] W := h1.tail.tail
  rw [tabEq] at h2
  exact Lib.tabIs_of_head gTab gTabType Tryd.underlying97 Tryd.underlying90 cellsE cellsT h2
set_option maxRecDepth 100000 in
theorem contract (H : Type) (enc : TypeId × Value → H) (W : World) (base : Nat) (args : Array Value) (ds gs : List (DataW H)) (before : List MemPlace)
    (hval : ∀ (j : Nat) t v, Tryd.f3.params[j]? = some t → args[j]? = some v → Value.okWide Tryd.prog W .any base t v)
    (hW : DataW.Whole enc Tryd.prog Tryd.f3.params.toList Rows.packedBackSpec.vars false W args.toList ds gs before)
    (hsz : (DataW.weightsEach Tryd.prog (Tryd.f3.params.toList ++ (OpenSpec.ofChange Rows.packedBackSpec).bare.plain.varTypes Tryd.prog) (ds ++ gs)).all (· ≤ reachBytes) = true)
    (hL : laidMetH Tryd.prog Rows.packedBackRow.laid W) :
    Calls Tryd.prog 3 args W fun e W' => ∃ v, e = .returned v ∧ Rows.packedBackSpec.post enc Tryd.prog Tryd.f3 false true false false W args v W' := by
  have hW' := hW
  obtain ⟨p, q, hA0, hV, rfl, hfz, hnd⟩ := hW
  have hA : DataW.TrodAll enc Tryd.prog W 0 (fun _ => true) true Tryd.f3.params.toList args.toList ds p := hA0
  rw [Tryd.params3] at hA hval hsz
  obtain ⟨v0, vs0, d0, ds0, p0, q0, hargs, rfl, rfl, h0, r0⟩ := trodAll_cons hA
  obtain ⟨rfl, rfl, rfl⟩ := trodAll_nil r0
  obtain rfl : args = #[v0] := by cases args; simp_all
  obtain ⟨rfl, rfl⟩ := trodVars_none hV
  have k0 := h0
  have lt0 : ∀ x ∈ p0, x.block < W.heap.size := by obtain ⟨m, hm⟩ := k0; exact DataW.trod_lt m _ _ _ hm
  obtain ⟨z0, w0⟩ : ∃ m : Mc, Mach W v0 m ∧ okM m ∧ (Lit.int .i64 m.1).wf = true ∧ ∀ s ∈ m.2, (Lit.int .i64 s.1).wf = true ∧ ∀ a ∈ s.2, wfA a := by
    obtain ⟨c0, c1, y0, y1, n, rfl, hd, hp, t0, t1⟩ := Go.Joins.open_agg2 Tryd.underlying24 (by kernel_rfl) (by kernel_rfl) (hval 0 24 v0 rfl rfl) h0
    subst hd
    exact open_machine t0 t1 ((Fits.arg hsz (j := 0) rfl rfl).field Tryd.underlying24 (f := 1) rfl rfl)
  refine (walk v0 z0 W w0 (tabOf hL)).mono fun e W' ⟨he, bel⟩ => ?_
  subst he
  exact ⟨_, rfl, _, _, _, [], _, [], hW', trodAll_mk1 (shut_bool Tryd.underlying4 _), (trodAll_cons_mk (Below.trod laidOut (by kernel_rfl) (of_decide_eq_true (by kernel_rfl)) k0 bel lt0) trodAll_mk0), rfl, bel.frame _, fun h => by cases h⟩
def cells_laid_math_bits_deBruijn32tab : Array Value := #[.int .u8 0, .int .u8 1, .int .u8 28, .int .u8 2, .int .u8 29, .int .u8 14, .int .u8 24, .int .u8 3, .int .u8 30, .int .u8 22, .int .u8 20, .int .u8 15, .int .u8 25, .int .u8 17, .int .u8 4, .int .u8 8, .int .u8 31, .int .u8 27, .int .u8 13, .int .u8 23, .int .u8 21, .int .u8 19, .int .u8 16, .int .u8 7, .int .u8 26, .int .u8 12, .int .u8 18, .int .u8 6, .int .u8 11, .int .u8 5, .int .u8 10, .int .u8 9]
def cells_laid_math_bits_deBruijn64tab : Array Value := #[.int .u8 0, .int .u8 1, .int .u8 56, .int .u8 2, .int .u8 57, .int .u8 49, .int .u8 28, .int .u8 3, .int .u8 61, .int .u8 58, .int .u8 42, .int .u8 50, .int .u8 38, .int .u8 29, .int .u8 17, .int .u8 4, .int .u8 62, .int .u8 47, .int .u8 59, .int .u8 36, .int .u8 45, .int .u8 43, .int .u8 51, .int .u8 22, .int .u8 53, .int .u8 39, .int .u8 33, .int .u8 30, .int .u8 24, .int .u8 18, .int .u8 12, .int .u8 5, .int .u8 63, .int .u8 55, .int .u8 48, .int .u8 27, .int .u8 60, .int .u8 41, .int .u8 37, .int .u8 16, .int .u8 46, .int .u8 35, .int .u8 44, .int .u8 21, .int .u8 52, .int .u8 32, .int .u8 23, .int .u8 11, .int .u8 54, .int .u8 26, .int .u8 40, .int .u8 15, .int .u8 34, .int .u8 20, .int .u8 31, .int .u8 10, .int .u8 25, .int .u8 14, .int .u8 19, .int .u8 9, .int .u8 13, .int .u8 8, .int .u8 7, .int .u8 6]
def cells_laid_internal_strconv_uint64pow10 : Array Value := #[.int .u64 1, .int .u64 10, .int .u64 100, .int .u64 1000, .int .u64 10000, .int .u64 100000, .int .u64 1000000, .int .u64 10000000, .int .u64 100000000, .int .u64 1000000000, .int .u64 10000000000, .int .u64 100000000000, .int .u64 1000000000000, .int .u64 10000000000000, .int .u64 100000000000000, .int .u64 1000000000000000, .int .u64 10000000000000000, .int .u64 100000000000000000, .int .u64 1000000000000000000, .int .u64 10000000000000000000]
def layOne (c : Array Value) : Obj → Obj
  | .cells _ t frozen => .cells c t frozen
  | o => o
theorem laid_met (os : Os) : laidMet Tryd.prog Rows.packedBackRow.laid (World.forCall ({ World.holding Tryd.prog os ⟨#[], #[], []⟩ with heap := ((((World.holding Tryd.prog os ⟨#[], #[], []⟩).heap.modify 2 (layOne cells_laid_math_bits_deBruijn32tab)).modify 3 (layOne cells_laid_math_bits_deBruijn64tab)).modify 0 (layOne cells_laid_internal_strconv_uint64pow10)) }) (fun _ _ => 0) ⟨#[], #[.agg #[.int .i64 0, .slice none 0 0]], []⟩).memory :=
  laidMet_of_run' 8 (by kernel_rfl) (by kernel_rfl)
theorem reads (os : Os) {H : Type} (enc : TypeId × Value → H) : ∃ places, DataW.whole enc Tryd.prog (World.forCall ({ World.holding Tryd.prog os ⟨#[], #[], []⟩ with heap := ((((World.holding Tryd.prog os ⟨#[], #[], []⟩).heap.modify 2 (layOne cells_laid_math_bits_deBruijn32tab)).modify 3 (layOne cells_laid_math_bits_deBruijn64tab)).modify 0 (layOne cells_laid_internal_strconv_uint64pow10)) }) (fun _ _ => 0) ⟨#[], #[.agg #[.int .i64 0, .slice none 0 0]], []⟩).memory Tryd.f3.params.toList Rows.packedBackSpec.vars false (#[.agg #[.int .i64 0, .slice none 0 0]] : Array Value).toList 8 = some ([.agg [.lit (.int .i64 0), .nil]], [], places) :=
  ⟨[], by kernel_rfl⟩
set_option maxRecDepth 100000 in
theorem lifted (os : Os) (started : os.Started) (H : Type) (enc : TypeId × Value → H) (F : Stop.Interp) :
    ReturnsInHanded {} Tryd.checked os 3 .any ((OpenSpec.ofChange Rows.packedBackSpec).preRow enc Tryd.prog Tryd.f3 Rows.packedBackRow.domain false Rows.packedBackRow.laid) (((OpenSpec.ofChange Rows.packedBackSpec).at F).post enc Tryd.prog Tryd.f3 false true false false) := by
  obtain ⟨places, hx⟩ := reads os enc
  refine returnsInHanded_of_row (C := Tryd.checked) (s := OpenSpec.ofChange Rows.packedBackSpec) own started (by kernel_rfl) Tryd.func3
    (witness_row_at (enc := enc) (C := Tryd.checked) false ({ World.holding Tryd.prog os ⟨#[], #[], []⟩ with heap := ((((World.holding Tryd.prog os ⟨#[], #[], []⟩).heap.modify 2 (layOne cells_laid_math_bits_deBruijn32tab)).modify 3 (layOne cells_laid_math_bits_deBruijn64tab)).modify 0 (layOne cells_laid_internal_strconv_uint64pow10)) }) #[.agg #[.int .i64 0, .slice none 0 0]] rfl (by kernel_rfl) (by kernel_rfl) (by kernel_rfl)
      (OpenSpec.preRow_of_cond 8 hx (by kernel_rfl) (fun k hk => by cases hk) (by kernel_rfl) (laid_met os))) ?_
  intro W base args ds gs before hval hW _ _ hsz hL _ _
  exact contract H enc W base args ds gs before hval hW hsz hL
theorem said : Rows.PackedBackSaid :=
  OpenClaim.holds_of_cond 3 Tryd.f3 rfl rfl rfl rfl rfl rfl rfl ⟨rfl, rfl, rfl, rfl, rfl⟩ rfl rfl rfl rfl rfl (by kernel_rfl) Tryd.func3 (by kernel_rfl)
    (of_decide_eq_true (by kernel_rfl)) (by unfold Func.isWrapper; first | (rw [if_pos (by decide +kernel)]; kernel_rfl) | (rw [if_neg (by decide +kernel)]; exact ⟨rfl, rfl⟩))
    (fun os started H enc _ F => by rw [OpenClaim.pre_eq_preRow]; exact lifted os started H enc F)
theorem plain (f : FuncId) (fn : Func) (hf : Tryd.pinned.checked.prog.funcNamed "tropica/tropicakeep.PackedBack" = some f) (hfn : Tryd.pinned.checked.prog.funcs[f]? = some fn) :
    true = Tryd.pinned.checked.prog.looks [] ∧ ∀ (j : Nat) t, fn.params[j]? = some t → Tryd.pinned.checked.prog.wantsStandIn t = false := by
  obtain rfl : f = 3 := Option.some.inj ((show Tryd.prog.funcNamed "tropica/tropicakeep.PackedBack" = some 3 by kernel_rfl).symm.trans hf) |>.symm
  obtain rfl : fn = Tryd.f3 := (Option.some.inj (Tryd.func3.symm.trans hfn)).symm
  refine ⟨by kernel_rfl, fun j t ht => ?_⟩
  rw [Tryd.params3] at ht
  obtain rfl : t = 24 := by simpa using Array.mem_of_getElem? ht
  exact (show Tryd.prog.wantsStandIn 24 = false by kernel_rfl)
end Go.Proofs.YtbbjpdadickilaaDoor.packedBack
namespace Go.Proofs.YtbbjpdadickilaaDoor
theorem packedBack_card : Rows.PackedBackCardSaid :=
  Claim7.holds_tied_plain_at .later [] _ _ _ _ packedBack.said (fun _ h => by cases h) (by kernel_rfl) (fun _ h => by cases h) packedBack_row_tie rfl ⟨rfl, rfl⟩ (by kernel_rfl) rfl packedBack.plain (by kernel_rfl)
#print axioms packedBack_card
end Go.Proofs.YtbbjpdadickilaaDoor
