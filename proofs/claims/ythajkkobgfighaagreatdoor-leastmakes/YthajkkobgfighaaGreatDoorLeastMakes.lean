/- The statement LeastMakes: whatever machine is given, the program's answer and the document's agree and no machine is changed, for every input and without any condition (where the table of powers of ten that the standard library reads is as its text lays it: that is the card's tie). -/
import Derived.Test.YthajkkobgfighaaGreatDoorCards
import Derived.Test.YthajkkobgfighaaGreatDoorTie
import Derived.Test.YthajkkobgfighaaGreatDoorJaa
import Derived.Test.YthajkkobgfighaaGreatDoorJac
import Derived.Test.YthajkkobgfighaaGreatDoorJaG
import Derived.Test.YthajkkobgfighaaGreatDoorJaR
import Derived.Lib.SmallJoins
import Derived.ChangeOld
import Derived.Below
import Derived.Deep.DeepHandedRow
import Derived.Stop.LaidErr
namespace Go.Proofs.YthajkkobgfighaaGreatDoor.leastMakes
open Go.ChangeShapes Go.WideShapes Go.ChangeAt Go.RowKit
open Go.Proofs.YthajkkobgfighaaGreatDoor.Pl Go.Proofs.YthajkkobgfighaaGreatDoor.Wt
set_option linter.unusedVariables false
theorem sml_ok {m x : Mc} {t e : Int} (h : SmlAns m x t e) : okM x := by
 have z : okM ((0 : Int), ([] : List St)) := ⟨by decide, fun j hj => absurd hj (by simp)⟩
 rcases h with ⟨_, rfl, _⟩ | ⟨_, _, rfl, _⟩ | ⟨_, _, _, rfl, _⟩ | ⟨_, _, _, p, s, g, hP, h⟩
 ·exact z
 ·exact z
 ·exact z
 ·rcases h with ⟨_, rfl, _⟩ | ⟨rfl, _, rfl, _⟩ | ⟨rfl, hz, ⟨f, hf, hl⟩, _⟩
  ·exact z
  ·exact right_okM (srt_right (psh_rights hP))
  ·have hr := srt_right (psh_rights hP)
   have hzl : p.1.toNat < (srtM p).2.length := by
    have h9 := (right_parts hr).1.2
    simp only [srtM, mapM] at h9 ⊢
    omega
   exact right_okM (lst_right (z := p.1) hr hf hzl hl).1
theorem own : ownKnob Tryz.prog.godebug = none := by kernel_rfl
theorem laidOut : laidOutB Tryz.prog = true := by kernel_rfl
set_option maxRecDepth 100000 in
theorem walk (v : Value) (m : Mc) (w : World) (h : Mach w v m ∧ okM m ∧ (Lit.int .i64 m.1).wf = true ∧ ∀ s ∈ m.2, (Lit.int .i64 s.1).wf = true ∧ ∀ a ∈ s.2, wfA a) (htab : Tab w) :
  Calls Tryz.prog 3 #[v] w fun e w' => e = .returned (.bool true) ∧ Below w.heap.size w w' := by
 have HTB : Hid (Tab w) := htab
 clear htab
 obtain ⟨h, hok, _⟩ := h
 have HI : Hid (Mach w v m) := h
 have HK : Hid (okM m) := hok
 have HKR : Hid (∀ x tt ec, SmlAns m x tt ec → okM x) := fun x tt ec h => sml_ok h
 have HPC : Hid (∀ W v, Tab W → Mach W v m → Calls Tryz.prog 5 #[v] W fun e w' => PshRes (SmlAns m) W e w') := fun W v hT hW => leastMk_any v m W hW hok hT
 have HRC : Hid (∀ W v, Mach W v m → Calls Tryz.prog 6 #[v] W fun e w' => PshRes (SmlAns m) W e w') := fun W v hW => madeLeast_any v m W hW hok
 obtain ⟨vs, rfl, hS⟩ := h
 obtain ⟨a, cap, rfl⟩ := hS.sl
 clear hS hok
 have HB0 : Hid (Below w.heap.size w (w.alloc (.cells #[.int .i64 m.1, .slice a m.2.length cap] 24))) := (Below.refl _ _).alloc (Nat.le_refl _) _
 go_enter Tryz.func3, Tryz.ntmps3
 go_wp2_with (first
  | (go_at_call 4; (with_reducible refine (machine_any _ m _ (HI.out.later HB0.out (Nat.le_refl _)) HK.out).mono ?_); rintro e w1 ⟨v1, rfl, hi, hb⟩; have HI1 : Hid (Mach w1 v1 m) := hi; obtain ⟨vs1, rfl, hS1⟩ := hi; obtain ⟨a1, cap1, rfl⟩ := hS1.sl; clear hS1; obtain ⟨s1, b1, hb1⟩ := boxed hb (by simp); have x0 := b1.cell 0 (v := .int .i64 m.1) rfl; have x1 := b1.cell 1 (v := .slice a m.2.length cap) rfl; have HB1 : Hid (Below w.heap.size w w1) := hb1; clear b1 hb1 hb)
  | (go_at_call 5; (with_reducible refine (HPC.out _ _ (HTB.out.later (HB1.out.alloc HB1.out.size _)) (HI1.out.later (B := w1.heap.size) (by go_grown) (Nat.le_refl _))).mono ?_); rintro e w2 ⟨v2, R, T, r, rfl, hq, hi, hb⟩; have HQ2 := hidP hq; have HKX := hidP (HKR.out _ _ _ hq); clear hq; have HI2 : Hid (Mach w2 v2 R) := hi; obtain ⟨vs2, rfl, hS2⟩ := hi; obtain ⟨a2, cap2, rfl⟩ := hS2.sl; clear hS2; obtain ⟨s2, b2, hb2⟩ := boxed hb (by simp); have d0 := b2.cell 0 (v := .int .i64 m.1) rfl; have d1 := b2.cell 1 (v := .slice a1 m.2.length cap1) rfl; have y0 := low x0 hb2; have y1 := low x1 hb2; have z0 : w.heap.size < w2.heap.size := World.block_lt_of_cell? _ _ y0; have z1 : w1.heap.size < w2.heap.size := World.block_lt_of_cell? _ _ d0; have HB2 : Hid (Below w1.heap.size w1 w2) := hb2; have HB2' : Hid (Below w.heap.size w w2) := HB1.out.trans (hb2.mono HB1.out.size); clear b2 hb2 hb)
  | (go_at_call 6; (with_reducible refine (HRC.out _ _ (HI.out.later (HB2'.out.alloc HB2'.out.size _) (Nat.le_refl _))).mono ?_); rintro e w3 ⟨v3, R3, T3, r3, rfl, hq, hi, hb⟩; obtain ⟨rfl, rfl, rfl⟩ := SmlAns.one HQ2.out hq; have ee : (r == r) = true := (by simp); have et : (T == T) = true := (by simp); clear hq; have HI3 : Hid (Mach w3 v3 R) := hi; obtain ⟨vs3, rfl, hS3⟩ := hi; obtain ⟨a3, cap3, rfl⟩ := hS3.sl; clear hS3; obtain ⟨s3, b3, hb3⟩ := boxed hb (by simp); have k0 := b3.cell 0 (v := .int .i64 R.1) rfl; have k1 := b3.cell 1 (v := .slice a2 R.2.length cap2) rfl; have c0 := low d0 hb3; have c1 := low d1 hb3; have c2 := low y0 hb3; have c3 := low y1 hb3; have z2 : w.heap.size < w3.heap.size := World.block_lt_of_cell? _ _ c2; have z3 : w1.heap.size < w3.heap.size := World.block_lt_of_cell? _ _ c0; have z4 : w2.heap.size < w3.heap.size := World.block_lt_of_cell? _ _ k0; have HB3 : Hid (Below w1.heap.size w1 w3) := HB2.out.trans (hb3.mono HB2.out.size); have HB3' : Hid (Below w.heap.size w w3) := HB2'.out.trans (hb3.mono HB2'.out.size); have HB3r : Hid (Below w2.heap.size w2 w3) := hb3; clear b3 hb3 hb)
  | (go_at_call 7; (with_reducible refine (sameMachine_any _ _ R _ (HI2.out.later (HB3r.out.alloc HB3r.out.size _) (Nat.le_refl _)) (HI3.out.later ((Below.refl _ _).alloc (Nat.le_refl _) _) (Nat.le_refl _)) HKX.out).mono ?_); rintro e w4 ⟨rfl, hb4⟩; obtain ⟨s4, b4, hb4'⟩ := boxed hb4 (by simp); have HB4 : Hid (Below w.heap.size w w4) := HB3'.out.trans (hb4'.mono HB3'.out.size); have HB4r : Hid (Below w1.heap.size w1 w4) := HB3.out.trans (hb4'.mono HB3.out.size); have e0 := low c0 hb4'; have e1 := low c1 hb4'; have e2 := low c2 hb4'; have e3 := low c3 hb4'; clear hb4 hb4' b4)
  | (go_at_call 7; (with_reducible refine (sameMachine_any _ _ m _ (HI1.out.later HB4r.out (Nat.le_refl _)) (HI.out.later HB4.out (Nat.le_refl _)) HK.out).mono ?_); rintro e w5 ⟨rfl, hb5⟩; have HB5 : Hid (Below w.heap.size w w5) := HB4.out.trans (hb5.mono HB4.out.size); clear hb5))
 go_ret
 exact ⟨rfl, HB5.out⟩
theorem gTab : Tryz.prog.globalNamed "internal/strconv.uint64pow10" = some 0 := by kernel_rfl
theorem gTabType : (Tryz.prog.globals[0]?).map (·.type) = some 175 := by kernel_rfl
theorem cellsT : Tryz.prog.cellsOf 175 = 20 := by kernel_rfl
theorem cellsE : Tryz.prog.cellsOf 120 = 1 := by kernel_rfl
theorem tabEq : (Rows.laid_internal_strconv_uint64pow10 : DataW Unit) = Lib.tabData .u64 Lib.pow10Tab := by kernel_rfl
theorem tabOf {W : World} (h : laidMetH Tryz.prog Rows.leastMakesRow.laid W) : Tab W := by
 have h1 : laidMet Tryz.prog [("math/bits.deBruijn32tab", Rows.laid_math_bits_deBruijn32tab), ("math/bits.deBruijn64tab", Rows.laid_math_bits_deBruijn64tab), ("internal/strconv.uint64pow10", Rows.laid_internal_strconv_uint64pow10)] W := h
 have h2 : laidMet Tryz.prog [("internal/strconv.uint64pow10", Rows.laid_internal_strconv_uint64pow10)] W := h1.tail.tail
 rw [tabEq] at h2
 exact Lib.tabIs_of_head gTab gTabType Tryz.underlying175 Tryz.underlying120 cellsE cellsT h2
set_option maxRecDepth 100000 in
theorem contract (H : Type) (enc : TypeId × Value → H) (W : World) (base : Nat) (args : Array Value) (ds gs : List (DataW H)) (before : List MemPlace)
  (hval : ∀ (j : Nat) t v, Tryz.f3.params[j]? = some t → args[j]? = some v → Value.okWide Tryz.prog W .any base t v)
  (hW : DataW.Whole enc Tryz.prog Tryz.f3.params.toList Rows.leastMakesSpec.vars false W args.toList ds gs before)
  (hsz : (DataW.weightsEach Tryz.prog (Tryz.f3.params.toList ++ (OpenSpec.ofChange Rows.leastMakesSpec).bare.plain.varTypes Tryz.prog) (ds ++ gs)).all (· ≤ reachBytes) = true)
  (hL : laidMetH Tryz.prog Rows.leastMakesRow.laid W) :
  Calls Tryz.prog 3 args W fun e W' => ∃ v, e = .returned v ∧ Rows.leastMakesSpec.post enc Tryz.prog Tryz.f3 false true false false W args v W' := by
 have hW' := hW
 obtain ⟨p, q, hA0, hV, rfl, hfz, hnd⟩ := hW
 have hA : DataW.TrodAll enc Tryz.prog W 0 (fun _ => true) true Tryz.f3.params.toList args.toList ds p := hA0
 rw [Tryz.params3] at hA hval hsz
 obtain ⟨v0, vs0, d0, ds0, p0, q0, hargs, rfl, rfl, h0, r0⟩ := trodAll_cons hA
 obtain ⟨rfl, rfl, rfl⟩ := trodAll_nil r0
 obtain rfl : args = #[v0] := by cases args; simp_all
 obtain ⟨rfl, rfl⟩ := trodVars_none hV
 have k0 := h0
 have lt0 : ∀ x ∈ p0, x.block < W.heap.size := by obtain ⟨m, hm⟩ := k0; exact DataW.trod_lt m _ _ _ hm
 obtain ⟨z0, w0⟩ : ∃ m : Mc, Mach W v0 m ∧ okM m ∧ (Lit.int .i64 m.1).wf = true ∧ ∀ s ∈ m.2, (Lit.int .i64 s.1).wf = true ∧ ∀ a ∈ s.2, wfA a := by
  obtain ⟨c0, c1, y0, y1, n, rfl, hd, hp, t0, t1⟩ := Go.Joins.open_agg2 Tryz.underlying24 (by kernel_rfl) (by kernel_rfl) (hval 0 24 v0 rfl rfl) h0
  subst hd
  exact open_machine t0 t1 ((Fits.arg hsz (j := 0) rfl rfl).field Tryz.underlying24 (f := 1) rfl rfl)
 refine (walk v0 z0 W w0 (tabOf hL)).mono fun e W' ⟨he, bel⟩ => ?_
 subst he
 exact ⟨_, rfl, _, _, _, [], _, [], hW', trodAll_mk1 (shut_bool Tryz.underlying4 _), (trodAll_cons_mk (Below.trod laidOut (by kernel_rfl) (of_decide_eq_true (by kernel_rfl)) k0 bel lt0) trodAll_mk0), rfl, bel.frame _, fun h => by cases h⟩
def cells_laid_math_bits_deBruijn32tab : Array Value := #[.int .u8 0, .int .u8 1, .int .u8 28, .int .u8 2, .int .u8 29, .int .u8 14, .int .u8 24, .int .u8 3, .int .u8 30, .int .u8 22, .int .u8 20, .int .u8 15, .int .u8 25, .int .u8 17, .int .u8 4, .int .u8 8, .int .u8 31, .int .u8 27, .int .u8 13, .int .u8 23, .int .u8 21, .int .u8 19, .int .u8 16, .int .u8 7, .int .u8 26, .int .u8 12, .int .u8 18, .int .u8 6, .int .u8 11, .int .u8 5, .int .u8 10, .int .u8 9]
def cells_laid_math_bits_deBruijn64tab : Array Value := #[.int .u8 0, .int .u8 1, .int .u8 56, .int .u8 2, .int .u8 57, .int .u8 49, .int .u8 28, .int .u8 3, .int .u8 61, .int .u8 58, .int .u8 42, .int .u8 50, .int .u8 38, .int .u8 29, .int .u8 17, .int .u8 4, .int .u8 62, .int .u8 47, .int .u8 59, .int .u8 36, .int .u8 45, .int .u8 43, .int .u8 51, .int .u8 22, .int .u8 53, .int .u8 39, .int .u8 33, .int .u8 30, .int .u8 24, .int .u8 18, .int .u8 12, .int .u8 5, .int .u8 63, .int .u8 55, .int .u8 48, .int .u8 27, .int .u8 60, .int .u8 41, .int .u8 37, .int .u8 16, .int .u8 46, .int .u8 35, .int .u8 44, .int .u8 21, .int .u8 52, .int .u8 32, .int .u8 23, .int .u8 11, .int .u8 54, .int .u8 26, .int .u8 40, .int .u8 15, .int .u8 34, .int .u8 20, .int .u8 31, .int .u8 10, .int .u8 25, .int .u8 14, .int .u8 19, .int .u8 9, .int .u8 13, .int .u8 8, .int .u8 7, .int .u8 6]
def cells_laid_internal_strconv_uint64pow10 : Array Value := #[.int .u64 1, .int .u64 10, .int .u64 100, .int .u64 1000, .int .u64 10000, .int .u64 100000, .int .u64 1000000, .int .u64 10000000, .int .u64 100000000, .int .u64 1000000000, .int .u64 10000000000, .int .u64 100000000000, .int .u64 1000000000000, .int .u64 10000000000000, .int .u64 100000000000000, .int .u64 1000000000000000, .int .u64 10000000000000000, .int .u64 100000000000000000, .int .u64 1000000000000000000, .int .u64 10000000000000000000]
def layOne (c : Array Value) : Obj → Obj
 | .cells _ t frozen => .cells c t frozen
 | o => o
theorem laid_met (os : Os) : laidMet Tryz.prog Rows.leastMakesRow.laid (World.forCall ({ World.holding Tryz.prog os ⟨#[], #[], []⟩ with heap := ((((World.holding Tryz.prog os ⟨#[], #[], []⟩).heap.modify 1 (layOne cells_laid_math_bits_deBruijn32tab)).modify 2 (layOne cells_laid_math_bits_deBruijn64tab)).modify 0 (layOne cells_laid_internal_strconv_uint64pow10)) }) (fun _ _ => 0) ⟨#[], #[.agg #[.int .i64 0, .slice none 0 0]], []⟩).memory :=
 laidMet_of_run' 8 (by kernel_rfl) (by kernel_rfl)
theorem reads (os : Os) {H : Type} (enc : TypeId × Value → H) : ∃ places, DataW.whole enc Tryz.prog (World.forCall ({ World.holding Tryz.prog os ⟨#[], #[], []⟩ with heap := ((((World.holding Tryz.prog os ⟨#[], #[], []⟩).heap.modify 1 (layOne cells_laid_math_bits_deBruijn32tab)).modify 2 (layOne cells_laid_math_bits_deBruijn64tab)).modify 0 (layOne cells_laid_internal_strconv_uint64pow10)) }) (fun _ _ => 0) ⟨#[], #[.agg #[.int .i64 0, .slice none 0 0]], []⟩).memory Tryz.f3.params.toList Rows.leastMakesSpec.vars false (#[.agg #[.int .i64 0, .slice none 0 0]] : Array Value).toList 8 = some ([.agg [.lit (.int .i64 0), .nil]], [], places) :=
 ⟨[], by kernel_rfl⟩
set_option maxRecDepth 100000 in
theorem lifted (os : Os) (started : os.Started) (H : Type) (enc : TypeId × Value → H) (F : Stop.Interp) :
  ReturnsInHanded {} Tryz.checked os 3 .any ((OpenSpec.ofChange Rows.leastMakesSpec).preRow enc Tryz.prog Tryz.f3 Rows.leastMakesRow.domain false Rows.leastMakesRow.laid) (((OpenSpec.ofChange Rows.leastMakesSpec).at F).post enc Tryz.prog Tryz.f3 false true false false) := by
 obtain ⟨places, hx⟩ := reads os enc
 refine returnsInHanded_of_row (C := Tryz.checked) (s := OpenSpec.ofChange Rows.leastMakesSpec) own started (by kernel_rfl) Tryz.func3
  (witness_row_at (enc := enc) (C := Tryz.checked) false ({ World.holding Tryz.prog os ⟨#[], #[], []⟩ with heap := ((((World.holding Tryz.prog os ⟨#[], #[], []⟩).heap.modify 1 (layOne cells_laid_math_bits_deBruijn32tab)).modify 2 (layOne cells_laid_math_bits_deBruijn64tab)).modify 0 (layOne cells_laid_internal_strconv_uint64pow10)) }) #[.agg #[.int .i64 0, .slice none 0 0]] rfl (by kernel_rfl) (by kernel_rfl) (by kernel_rfl)
   (OpenSpec.preRow_of_cond 8 hx (by kernel_rfl) (fun k hk => by cases hk) (by kernel_rfl) (laid_met os))) ?_
 intro W base args ds gs before hval hW _ _ hsz hL _ _
 exact contract H enc W base args ds gs before hval hW hsz hL
theorem said : Rows.LeastMakesSaid :=
 OpenClaim.holds_of_cond 3 Tryz.f3 rfl rfl rfl rfl rfl rfl rfl ⟨rfl, rfl, rfl, rfl, rfl⟩ rfl rfl rfl rfl rfl (by kernel_rfl) Tryz.func3 (by kernel_rfl)
  (of_decide_eq_true (by kernel_rfl)) (by unfold Func.isWrapper; first | (rw [if_pos (by decide +kernel)]; kernel_rfl) | (rw [if_neg (by decide +kernel)]; exact ⟨rfl, rfl⟩))
  (fun os started H enc _ F => by rw [OpenClaim.pre_eq_preRow]; exact lifted os started H enc F)
theorem plain (f : FuncId) (fn : Func) (hf : Tryz.pinned.checked.prog.funcNamed "tropica/tropicalaw.LeastMakes" = some f) (hfn : Tryz.pinned.checked.prog.funcs[f]? = some fn) :
  true = Tryz.pinned.checked.prog.looks [] ∧ ∀ (j : Nat) t, fn.params[j]? = some t → Tryz.pinned.checked.prog.wantsStandIn t = false := by
 obtain rfl : f = 3 := Option.some.inj ((show Tryz.prog.funcNamed "tropica/tropicalaw.LeastMakes" = some 3 by kernel_rfl).symm.trans hf) |>.symm
 obtain rfl : fn = Tryz.f3 := (Option.some.inj (Tryz.func3.symm.trans hfn)).symm
 refine ⟨by kernel_rfl, fun j t ht => ?_⟩
 rw [Tryz.params3] at ht
 obtain rfl : t = 24 := by simpa using Array.mem_of_getElem? ht
 exact (show Tryz.prog.wantsStandIn 24 = false by kernel_rfl)
end Go.Proofs.YthajkkobgfighaaGreatDoor.leastMakes
namespace Go.Proofs.YthajkkobgfighaaGreatDoor
theorem leastMakes_card : Rows.LeastMakesCardSaid :=
 Claim7.holds_tied_plain_at .later [] _ _ _ _ leastMakes.said (fun _ h => by cases h) (by kernel_rfl) (fun _ h => by cases h) leastMakes_row_tie rfl ⟨rfl, rfl⟩ (by kernel_rfl) rfl leastMakes.plain (by kernel_rfl)
#print axioms leastMakes_card
end Go.Proofs.YthajkkobgfighaaGreatDoor
