/- The statement NamesShows: whatever table is given, the program's Show and the document's answer agree and the table is not changed, for every input and without any condition (where the table of powers of ten that the standard library reads is as its text lays it: that is the card's tie). -/
import Derived.Test.YtljpbkkofalinaaDoorCards
import Derived.Test.YtljpbkkofalinaaDoorTie
import Derived.Test.YtljpbkkofalinaaDoorNmO
import Derived.Test.YtljpbkkofalinaaDoorNmL
import Derived.Test.YtljpbkkofalinaaDoorSw
import Derived.Test.YtljpbkkofalinaaDoorSwR
import Derived.ShutString
import Derived.SizedLaws
import Derived.ChangeOld
import Derived.Below
import Derived.Deep.DeepHandedRow
import Derived.Stop.LaidErr
namespace Go.Proofs.YtljpbkkofalinaaDoor.namesShows
open Go.ChangeShapes Go.WideShapes Go.ChangeAt Go.RowKit
open Go.Proofs.YtljpbkkofalinaaDoor.Pl Go.Proofs.YtljpbkkofalinaaDoor.Wt
set_option linter.unusedVariables false

theorem own : ownKnob Tryd.prog.godebug = none := by kernel_rfl
theorem laidOut : laidOutB Tryd.prog = true := by kernel_rfl
theorem core (v : Value) (ns : List Nm) (w : World) (h : Nms w v ns) (hr : ns.length * 24 ≤ 140737488351232) (ht : Tab w) (x : ByteArray) (y : Int)
    (hp : ∀ v' w', Nms w' v' ns → Tab w' → Calls Tryd.prog 7 #[v'] w' fun e w2 => e = .returned (.tuple #[.string x, .int .i64 y]) ∧ Below w'.heap.size w' w2)
    (hq : ∀ v' w', Nms w' v' ns → Calls Tryd.prog 8 #[v'] w' fun e w2 => e = .returned (.tuple #[.string x, .int .i64 y]) ∧ Below w'.heap.size w' w2) :
    Calls Tryd.prog 3 #[v] w fun e w' => e = .returned (.bool true) ∧ Below w.heap.size w w' := by
  have HI : Hid (Nms w v ns) := h
  have HT : Hid (Tab w) := ht
  have HM : Hid (ns.length ≤ maxLen) := by show _ ≤ _; unfold maxLen; omega
  have HR : Hid (ns.length * 24 ≤ 140737488351232) := hr
  have HP : Hid (∀ v' w', Nms w' v' ns → Tab w' → Calls Tryd.prog 7 #[v'] w' fun e w2 => e = .returned (.tuple #[.string x, .int .i64 y]) ∧ Below w'.heap.size w' w2) := hp
  have HQ : Hid (∀ v' w', Nms w' v' ns → Calls Tryd.prog 8 #[v'] w' fun e w2 => e = .returned (.tuple #[.string x, .int .i64 y]) ∧ Below w'.heap.size w' w2) := hq
  have hxx : (x.toList == x.toList) = true := beq_self_eq_true _
  clear h hr hp hq ht
  go_enter Tryd.func3, Tryd.ntmps3
  go_wp2_with (first
    | (go_at_call 6; (with_reducible refine (clone_any _ ns _ HI.out HR.out).mono ?_); rintro e w1 ⟨v1, rfl, hi, hb⟩; have HI1 : Hid (Nms w1 v1 ns) := hi; have HB1 : Hid (Below w.heap.size w w1) := hb; clear hi hb)
    | (go_at_call 7; (with_reducible refine (HP.out _ _ HI1.out (HT.out.later HB1.out)).mono ?_); rintro e w2 ⟨rfl, hb⟩; have HB2 : Hid (Below w1.heap.size w1 w2) := hb; have HB3 : Hid (Below w.heap.size w w2) := HB1.out.trans (hb.mono HB1.out.size); clear hb)
    | (go_at_call 8; (with_reducible refine (HQ.out _ _ (HI.out.later HB3.out (Nat.le_refl _))).mono ?_); rintro e w3 ⟨rfl, hb⟩; have HB4 : Hid (Below w2.heap.size w2 w3) := hb; have HB5 : Hid (Below w1.heap.size w1 w3) := HB2.out.trans (hb.mono HB2.out.size); have HB6 : Hid (Below w.heap.size w w3) := HB3.out.trans (hb.mono HB3.out.size); clear hb)
    | (go_at_call 9; (with_reducible refine (same_any _ _ ns _ (HI1.out.later HB5.out (Nat.le_refl _)) (HI.out.later HB6.out (Nat.le_refl _)) HM.out).mono ?_); rintro e w4 ⟨rfl, hb4⟩))
  go_ret
  exact ⟨rfl, HB6.out.trans (hb4.mono HB6.out.size)⟩
theorem walk (v : Value) (ns : List Nm) (w : World) (h : Nms w v ns ∧ ns.length * 24 ≤ 140737488351232 ∧ ∀ p ∈ ns, p.1.size ≤ maxLen ∧ (Lit.int .i64 p.2).wf = true) (ht : Tab w) :
    Calls Tryd.prog 3 #[v] w fun e w' => e = .returned (.bool true) ∧ Below w.heap.size w w' := by
  obtain ⟨h, hr, _⟩ := h
  have hm : ns.length ≤ maxLen := by unfold maxLen; omega
  by_cases h0 : faultR ns = 0
  · exact core v ns w h hr ht (showS ns) 0 (fun v' w' hn ht => show_ok v' ns w' hn hm h0 ht _ rfl) (fun v' w' hn => shown_ok v' ns w' hn hm h0 _ rfl)
  · exact core v ns w h hr ht ByteArray.empty (faultR ns) (fun v' w' hn _ => show_bad v' ns w' hn hm _ rfl h0) (fun v' w' hn => shown_bad v' ns w' hn hm _ rfl h0)

theorem gTab : Tryd.prog.globalNamed "internal/strconv.uint64pow10" = some 0 := by kernel_rfl
theorem gTabType : (Tryd.prog.globals[0]?).map (·.type) = some 105 := by kernel_rfl
theorem cellsT : Tryd.prog.cellsOf 105 = 20 := by kernel_rfl
theorem cellsE : Tryd.prog.cellsOf 90 = 1 := by kernel_rfl
theorem tabEq : (Rows.laid_internal_strconv_uint64pow10 : DataW Unit) = Lib.tabData .u64 Lib.pow10Tab := by kernel_rfl
theorem tabOf {W : World} (h : laidMetH Tryd.prog Rows.namesShowsRow.laid W) : Tab W := by
  have h1 : laidMet Tryd.prog [("math/bits.deBruijn32tab", Rows.laid_math_bits_deBruijn32tab), ("math/bits.deBruijn64tab", Rows.laid_math_bits_deBruijn64tab), ("internal/strconv.uint64pow10", Rows.laid_internal_strconv_uint64pow10)] W := h
  have h2 : laidMet Tryd.prog [("internal/strconv.uint64pow10", Rows.laid_internal_strconv_uint64pow10)] W := h1.tail.tail
  rw [tabEq] at h2
  exact Lib.tabIs_of_head gTab gTabType Tryd.underlying105 Tryd.underlying90 cellsE cellsT h2
set_option maxRecDepth 100000 in
theorem contract (H : Type) (enc : TypeId × Value → H) (W : World) (base : Nat) (args : Array Value) (ds gs : List (DataW H)) (before : List MemPlace)
    (hval : ∀ (j : Nat) t v, Tryd.f3.params[j]? = some t → args[j]? = some v → Value.okWide Tryd.prog W .any base t v)
    (hW : DataW.Whole enc Tryd.prog Tryd.f3.params.toList Rows.namesShowsSpec.vars false W args.toList ds gs before)
    (hsz : (DataW.weightsEach Tryd.prog (Tryd.f3.params.toList ++ (OpenSpec.ofChange Rows.namesShowsSpec).bare.plain.varTypes Tryd.prog) (ds ++ gs)).all (· ≤ reachBytes) = true)
    (hL : laidMetH Tryd.prog Rows.namesShowsRow.laid W) :
    Calls Tryd.prog 3 args W fun e W' => ∃ v, e = .returned v ∧ Rows.namesShowsSpec.post enc Tryd.prog Tryd.f3 false true false false W args v W' := by
  have hW' := hW
  obtain ⟨p, q, hA0, hV, rfl, hfz, hnd⟩ := hW
  have hA : DataW.TrodAll enc Tryd.prog W 0 (fun _ => true) true Tryd.f3.params.toList args.toList ds p := hA0
  rw [Tryd.params3] at hA hval hsz
  obtain ⟨v0, vs0, d0, ds0, p0, q0, hargs, rfl, rfl, h0, r0⟩ := trodAll_cons hA
  obtain ⟨rfl, rfl, rfl⟩ := trodAll_nil r0
  obtain rfl : args = #[v0] := by cases args; simp_all
  obtain ⟨rfl, rfl⟩ := trodVars_none hV
  have k0 := h0
  have lt0 : ∀ x ∈ p0, x.block < W.heap.size := by obtain ⟨m, hm⟩ := k0; exact DataW.trod_lt m _ _ _ hm
  obtain ⟨z0, w0⟩ : ∃ ns : List Nm, Nms W v0 ns ∧ ns.length * 24 ≤ 140737488351232 ∧ ∀ p ∈ ns, p.1.size ≤ maxLen ∧ (Lit.int .i64 p.2).wf = true := by
    obtain ⟨al0, ll0, cl0, rfl⟩ := okWide_slice Tryd.underlying22 (hval 0 22 v0 rfl rfl)
    obtain ⟨fuel, hf⟩ := h0
    obtain ⟨ns, hn, hwf, hx⟩ := open_names (v := .slice al0 ll0 cl0) hf
    refine ⟨ns, hn, ?_, hwf⟩
    rcases hx with ⟨rfl, _⟩ | ⟨xs, ys, hd, hl⟩
    · simp
    · have hsw := sized_slice hsz (j := 0) (t := 22) (e := 36) rfl (congrArg some hd) Tryd.underlying22
      have hby : Tryd.prog.bytesOf 36 = 24 := by kernel_rfl
      rw [hby] at hsw
      simp only [reachBytes] at hsw
      omega
  refine (walk v0 z0 W w0 (tabOf hL)).mono fun e W' ⟨he, bel⟩ => ?_
  subst he
  exact ⟨_, rfl, _, _, _, [], _, [], hW', trodAll_mk1 (shut_bool Tryd.underlying4 _), (trodAll_cons_mk (Below.trod laidOut (by kernel_rfl) (of_decide_eq_true (by kernel_rfl)) k0 bel lt0) trodAll_mk0), rfl, bel.frame _, fun h => by cases h⟩
def cells_laid_math_bits_deBruijn32tab : Array Value := #[.int .u8 0, .int .u8 1, .int .u8 28, .int .u8 2, .int .u8 29, .int .u8 14, .int .u8 24, .int .u8 3, .int .u8 30, .int .u8 22, .int .u8 20, .int .u8 15, .int .u8 25, .int .u8 17, .int .u8 4, .int .u8 8, .int .u8 31, .int .u8 27, .int .u8 13, .int .u8 23, .int .u8 21, .int .u8 19, .int .u8 16, .int .u8 7, .int .u8 26, .int .u8 12, .int .u8 18, .int .u8 6, .int .u8 11, .int .u8 5, .int .u8 10, .int .u8 9]
def cells_laid_math_bits_deBruijn64tab : Array Value := #[.int .u8 0, .int .u8 1, .int .u8 56, .int .u8 2, .int .u8 57, .int .u8 49, .int .u8 28, .int .u8 3, .int .u8 61, .int .u8 58, .int .u8 42, .int .u8 50, .int .u8 38, .int .u8 29, .int .u8 17, .int .u8 4, .int .u8 62, .int .u8 47, .int .u8 59, .int .u8 36, .int .u8 45, .int .u8 43, .int .u8 51, .int .u8 22, .int .u8 53, .int .u8 39, .int .u8 33, .int .u8 30, .int .u8 24, .int .u8 18, .int .u8 12, .int .u8 5, .int .u8 63, .int .u8 55, .int .u8 48, .int .u8 27, .int .u8 60, .int .u8 41, .int .u8 37, .int .u8 16, .int .u8 46, .int .u8 35, .int .u8 44, .int .u8 21, .int .u8 52, .int .u8 32, .int .u8 23, .int .u8 11, .int .u8 54, .int .u8 26, .int .u8 40, .int .u8 15, .int .u8 34, .int .u8 20, .int .u8 31, .int .u8 10, .int .u8 25, .int .u8 14, .int .u8 19, .int .u8 9, .int .u8 13, .int .u8 8, .int .u8 7, .int .u8 6]
def cells_laid_internal_strconv_uint64pow10 : Array Value := #[.int .u64 1, .int .u64 10, .int .u64 100, .int .u64 1000, .int .u64 10000, .int .u64 100000, .int .u64 1000000, .int .u64 10000000, .int .u64 100000000, .int .u64 1000000000, .int .u64 10000000000, .int .u64 100000000000, .int .u64 1000000000000, .int .u64 10000000000000, .int .u64 100000000000000, .int .u64 1000000000000000, .int .u64 10000000000000000, .int .u64 100000000000000000, .int .u64 1000000000000000000, .int .u64 10000000000000000000]
def layOne (c : Array Value) : Obj → Obj
  | .cells _ t frozen => .cells c t frozen
  | o => o
theorem laid_met (os : Os) : laidMet Tryd.prog Rows.namesShowsRow.laid (World.forCall ({ World.holding Tryd.prog os ⟨#[], #[], []⟩ with heap := ((((World.holding Tryd.prog os ⟨#[], #[], []⟩).heap.modify 4 (layOne cells_laid_math_bits_deBruijn32tab)).modify 5 (layOne cells_laid_math_bits_deBruijn64tab)).modify 0 (layOne cells_laid_internal_strconv_uint64pow10)) }) (fun _ _ => 0) ⟨#[], #[.slice none 0 0], []⟩).memory :=
  laidMet_of_run' 8 (by kernel_rfl) (by kernel_rfl)
theorem reads (os : Os) {H : Type} (enc : TypeId × Value → H) : ∃ places, DataW.whole enc Tryd.prog (World.forCall ({ World.holding Tryd.prog os ⟨#[], #[], []⟩ with heap := ((((World.holding Tryd.prog os ⟨#[], #[], []⟩).heap.modify 4 (layOne cells_laid_math_bits_deBruijn32tab)).modify 5 (layOne cells_laid_math_bits_deBruijn64tab)).modify 0 (layOne cells_laid_internal_strconv_uint64pow10)) }) (fun _ _ => 0) ⟨#[], #[.slice none 0 0], []⟩).memory Tryd.f3.params.toList Rows.namesShowsSpec.vars false (#[.slice none 0 0] : Array Value).toList 8 = some ([.nil], [], places) :=
  ⟨[], by kernel_rfl⟩
set_option maxRecDepth 100000 in
theorem lifted (os : Os) (started : os.Started) (H : Type) (enc : TypeId × Value → H) (F : Stop.Interp) :
    ReturnsInHanded {} Tryd.checked os 3 .any ((OpenSpec.ofChange Rows.namesShowsSpec).preRow enc Tryd.prog Tryd.f3 Rows.namesShowsRow.domain false Rows.namesShowsRow.laid) (((OpenSpec.ofChange Rows.namesShowsSpec).at F).post enc Tryd.prog Tryd.f3 false true false false) := by
  obtain ⟨places, hx⟩ := reads os enc
  refine returnsInHanded_of_row (C := Tryd.checked) (s := OpenSpec.ofChange Rows.namesShowsSpec) own started (by kernel_rfl) Tryd.func3
    (witness_row_at (enc := enc) (C := Tryd.checked) false ({ World.holding Tryd.prog os ⟨#[], #[], []⟩ with heap := ((((World.holding Tryd.prog os ⟨#[], #[], []⟩).heap.modify 4 (layOne cells_laid_math_bits_deBruijn32tab)).modify 5 (layOne cells_laid_math_bits_deBruijn64tab)).modify 0 (layOne cells_laid_internal_strconv_uint64pow10)) }) #[.slice none 0 0] rfl (by kernel_rfl) (by kernel_rfl) (by kernel_rfl)
      (OpenSpec.preRow_of_cond 8 hx (by kernel_rfl) (fun k hk => by cases hk) (by kernel_rfl) (laid_met os))) ?_
  intro W base args ds gs before hval hW _ _ hsz hL _ _
  exact contract H enc W base args ds gs before hval hW hsz hL
theorem said : Rows.NamesShowsSaid :=
  OpenClaim.holds_of_cond 3 Tryd.f3 rfl rfl rfl rfl rfl rfl rfl ⟨rfl, rfl, rfl, rfl, rfl⟩ rfl rfl rfl rfl rfl (by kernel_rfl) Tryd.func3 (by kernel_rfl)
    (of_decide_eq_true (by kernel_rfl)) (by unfold Func.isWrapper; first | (rw [if_pos (by decide +kernel)]; kernel_rfl) | (rw [if_neg (by decide +kernel)]; exact ⟨rfl, rfl⟩))
    (fun os started H enc _ F => by rw [OpenClaim.pre_eq_preRow]; exact lifted os started H enc F)
theorem plain (f : FuncId) (fn : Func) (hf : Tryd.pinned.checked.prog.funcNamed "tropica/tropicalaw.NamesShows" = some f) (hfn : Tryd.pinned.checked.prog.funcs[f]? = some fn) :
    true = Tryd.pinned.checked.prog.looks [] ∧ ∀ (j : Nat) t, fn.params[j]? = some t → Tryd.pinned.checked.prog.wantsStandIn t = false := by
  obtain rfl : f = 3 := Option.some.inj ((show Tryd.prog.funcNamed "tropica/tropicalaw.NamesShows" = some 3 by kernel_rfl).symm.trans hf) |>.symm
  obtain rfl : fn = Tryd.f3 := (Option.some.inj (Tryd.func3.symm.trans hfn)).symm
  refine ⟨by kernel_rfl, fun j t ht => ?_⟩
  rw [Tryd.params3] at ht
  obtain rfl : t = 22 := by simpa using Array.mem_of_getElem? ht
  exact (show Tryd.prog.wantsStandIn 22 = false by kernel_rfl)
end Go.Proofs.YtljpbkkofalinaaDoor.namesShows
namespace Go.Proofs.YtljpbkkofalinaaDoor
theorem namesShows_card : Rows.NamesShowsCardSaid :=
  Claim7.holds_tied_plain_at .later [] _ _ _ _ namesShows.said (fun _ h => by cases h) (by kernel_rfl) (fun _ h => by cases h) namesShows_row_tie rfl ⟨rfl, rfl⟩ (by kernel_rfl) rfl namesShows.plain (by kernel_rfl)
#print axioms namesShows_card
end Go.Proofs.YtljpbkkofalinaaDoor
