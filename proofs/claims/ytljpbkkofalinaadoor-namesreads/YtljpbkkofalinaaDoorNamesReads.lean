/- The statement NamesReads: whatever text is given, the program's Read and the document's answer agree, for every input and without any condition (where the variables of the standard library that its row lists are as their texts lay them: that is the card's tie). -/
import Derived.Test.YtljpbkkofalinaaDoorCards
import Derived.Test.YtljpbkkofalinaaDoorTie
import Derived.Test.YtljpbkkofalinaaDoorNq
import Derived.Test.YtljpbkkofalinaaDoorNmL
import Derived.ShutString
import Derived.SizedLaws
import Derived.ChangeOld
import Derived.ChangeMaps5
import Derived.Below
import Derived.Deep.DeepHandedRow
import Derived.Stop.LaidErr
namespace Go.Proofs.YtljpbkkofalinaaDoor.namesReads
open Go.ChangeShapes Go.WideShapes Go.ChangeAt Go.RowKit Go.ChangeMaps
open Go.Proofs.YtljpbkkofalinaaDoor.Pl Go.Proofs.YtljpbkkofalinaaDoor.Wt
set_option linter.unusedVariables false

theorem own : ownKnob Tryd.prog.godebug = none := by kernel_rfl
theorem core (s : ByteArray) (ns : List Nm) (y : Int) (w : World) (hn : ns.length ≤ 100)
    (hp : Calls Tryd.prog 10 #[.string s] w fun e w' => ∃ v, e = .returned (.tuple #[v, .int .i64 y]) ∧ Nms w' v ns ∧ Below w.heap.size w w')
    (hq : ∀ W : World, Calls Tryd.prog 11 #[.string s] W fun e w' => ∃ v, e = .returned (.tuple #[v, .int .i64 y]) ∧ Nms w' v ns ∧ Below W.heap.size W w') :
    Calls Tryd.prog 4 #[.string s] w fun e w' => e = .returned (.bool true) ∧ Below w.heap.size w w' := by
  have HP : Hid (Calls Tryd.prog 10 #[.string s] w fun e w' => ∃ v, e = .returned (.tuple #[v, .int .i64 y]) ∧ Nms w' v ns ∧ Below w.heap.size w w') := hp
  have HQ : Hid (∀ W : World, Calls Tryd.prog 11 #[.string s] W fun e w' => ∃ v, e = .returned (.tuple #[v, .int .i64 y]) ∧ Nms w' v ns ∧ Below W.heap.size W w') := hq
  have HM : Hid (ns.length ≤ maxLen) := by show _ ≤ _; unfold maxLen; omega
  clear hp hq
  go_enter Tryd.func4, Tryd.ntmps4
  go_wp2_with (first
    | (go_at_call 10; (with_reducible refine HP.out.mono ?_); rintro e w1 ⟨v1, rfl, hi, hb⟩; have HI1 : Hid (Nms w1 v1 ns) := hi; have HB1 : Hid (Below w.heap.size w w1) := hb; clear hi hb)
    | (go_at_call 11; (with_reducible refine (HQ.out _).mono ?_); rintro e w2 ⟨v2, rfl, hi, hb⟩; have HI2 : Hid (Nms w2 v2 ns) := hi; have HI3 : Hid (Nms w2 v1 ns) := HI1.out.later hb (Nat.le_refl _); have HB2 : Hid (Below w.heap.size w w2) := HB1.out.trans (hb.mono HB1.out.size); clear hi hb)
    | (go_at_call 9; (with_reducible refine (same_any _ _ ns _ HI3.out HI2.out HM.out).mono ?_); rintro e w4 ⟨rfl, hb4⟩))
  go_ret
  exact ⟨rfl, HB2.out.trans (hb4.mono HB2.out.size)⟩
theorem walk (s : ByteArray) (w : World) (hs : s.size ≤ maxLen) (ht : Tab w) (he : Errs w) :
    Calls Tryd.prog 4 #[.string s] w fun e w' => e = .returned (.bool true) ∧ Below w.heap.size w w' := by
  by_cases hl : s.size ≤ 20000
  · by_cases h : ∃ ns, faultR ns = 0 ∧ showS ns = s
    · obtain ⟨ns, h1, h2⟩ := h
      obtain ⟨ok, e⟩ := ok_of_show h1 h2
      refine core s ns 0 w (fault_ok h1).1 (read_ok ns s w ht he h1 h2) (fun W => (nread_core s W hl).mono ?_)
      rintro e' w' ⟨hb, ⟨_, v, rfl, hn⟩ | ⟨hno, _⟩⟩
      · rw [e] at hn; exact ⟨v, rfl, hn, hb⟩
      · exact absurd ok hno
    · have h' : ∀ ns, faultR ns = 0 → showS ns ≠ s := fun ns h1 h2 => h ⟨ns, h1, h2⟩
      refine core s [] 3 w (by simp) ((read_no s w hl ht he h').mono ?_) (fun W => (nread_core s W hl).mono ?_)
      · rintro e' w' ⟨rfl, hb⟩
        exact ⟨_, rfl, .inl ⟨rfl, rfl⟩, hb⟩
      · rintro e' w' ⟨hb, ⟨ok, _⟩ | ⟨_, rfl⟩⟩
        · exact absurd (show_of_ok ok) (h' _ ok.2.2.2)
        · exact ⟨_, rfl, .inl ⟨rfl, rfl⟩, hb⟩
  · refine core s [] 1 w (by simp) ((read_long s w (by omega)).mono ?_) (fun W => (nread_long s W (by omega)).mono ?_)
    · rintro e' w' ⟨rfl, hb⟩
      exact ⟨_, rfl, .inl ⟨rfl, rfl⟩, hb⟩
    · rintro e' w' ⟨rfl, hb⟩
      exact ⟨_, rfl, .inl ⟨rfl, rfl⟩, hb⟩

theorem gTab : Tryd.prog.globalNamed "internal/strconv.uint64pow10" = some 0 := by kernel_rfl
theorem gTabType : (Tryd.prog.globals[0]?).map (·.type) = some 105 := by kernel_rfl
theorem cellsT : Tryd.prog.cellsOf 105 = 20 := by kernel_rfl
theorem cellsE : Tryd.prog.cellsOf 90 = 1 := by kernel_rfl
theorem tabEq : (Rows.laid_internal_strconv_uint64pow10 : DataW Unit) = Lib.tabData .u64 Lib.pow10Tab := by kernel_rfl
theorem tabOf {W : World} (h : laidMetH Tryd.prog Rows.namesReadsRow.laid W) : Tab W := by
  have h1 : laidMet Tryd.prog [("math/bits.deBruijn32tab", Rows.laid_math_bits_deBruijn32tab), ("math/bits.deBruijn64tab", Rows.laid_math_bits_deBruijn64tab), ("internal/strconv.uint64pow10", Rows.laid_internal_strconv_uint64pow10), ("strconv.ErrRange", Rows.laid_strconv_ErrRange), ("strconv.ErrSyntax", Rows.laid_strconv_ErrSyntax)] W := h
  have h2 : laidMet Tryd.prog [("internal/strconv.uint64pow10", Rows.laid_internal_strconv_uint64pow10), ("strconv.ErrRange", Rows.laid_strconv_ErrRange), ("strconv.ErrSyntax", Rows.laid_strconv_ErrSyntax)] W := h1.tail.tail
  rw [tabEq] at h2
  exact Lib.tabIs_of_head gTab gTabType Tryd.underlying105 Tryd.underlying90 cellsE cellsT h2
theorem cellsTE : Tryd.prog.cellsOf 123 = 1 := by kernel_rfl
theorem cellsTS : Tryd.prog.cellsOf 9 = 1 := by kernel_rfl
theorem star : "*" ++ "errors.errorString" = "*errors.errorString" := by decide
theorem rowTP (u : TypeId) (h : Tryd.prog.typeName? 3 u = some "*errors.errorString") : u = 121 :=
  typeName_ptr_named (nm := "errors.errorString") (by rw [star]; kernel_rfl) (by kernel_rfl) (by decide) u (by rw [star]; exact h)
theorem gErrRange : Tryd.prog.globalNamed "strconv.ErrRange" = some 3 := by kernel_rfl
theorem gErrRangeType : (Tryd.prog.globals[3]?).map (·.type) = some 43 := by kernel_rfl
theorem ofErrRange {W : World} (h : laidMetH Tryd.prog Rows.namesReadsRow.laid W) : ErrV "strconv.ErrRange" W := by
  have h1 : laidMet Tryd.prog [("math/bits.deBruijn32tab", Rows.laid_math_bits_deBruijn32tab), ("math/bits.deBruijn64tab", Rows.laid_math_bits_deBruijn64tab), ("internal/strconv.uint64pow10", Rows.laid_internal_strconv_uint64pow10), ("strconv.ErrRange", Rows.laid_strconv_ErrRange), ("strconv.ErrSyntax", Rows.laid_strconv_ErrSyntax)] W := h
  have h2 : laidMet Tryd.prog (("strconv.ErrRange", .iface "*errors.errorString" (.ptr (.agg [.lit (.string [118, 97, 108, 117, 101, 32, 111, 117, 116, 32, 111, 102, 32, 114, 97, 110, 103, 101])]))) :: [("strconv.ErrSyntax", Rows.laid_strconv_ErrSyntax)]) W := h1.tail.tail.tail
  obtain ⟨a, s, hv, _⟩ := laid_sentinel h2 gErrRange gErrRangeType Tryd.underlying43 rowTP Tryd.underlying121 Tryd.underlying123 rfl rfl Tryd.underlying9 cellsTE cellsTS
  exact ⟨_, _, hv⟩
theorem gErrSyntax : Tryd.prog.globalNamed "strconv.ErrSyntax" = some 2 := by kernel_rfl
theorem gErrSyntaxType : (Tryd.prog.globals[2]?).map (·.type) = some 43 := by kernel_rfl
theorem ofErrSyntax {W : World} (h : laidMetH Tryd.prog Rows.namesReadsRow.laid W) : ErrV "strconv.ErrSyntax" W := by
  have h1 : laidMet Tryd.prog [("math/bits.deBruijn32tab", Rows.laid_math_bits_deBruijn32tab), ("math/bits.deBruijn64tab", Rows.laid_math_bits_deBruijn64tab), ("internal/strconv.uint64pow10", Rows.laid_internal_strconv_uint64pow10), ("strconv.ErrRange", Rows.laid_strconv_ErrRange), ("strconv.ErrSyntax", Rows.laid_strconv_ErrSyntax)] W := h
  have h2 : laidMet Tryd.prog (("strconv.ErrSyntax", .iface "*errors.errorString" (.ptr (.agg [.lit (.string [105, 110, 118, 97, 108, 105, 100, 32, 115, 121, 110, 116, 97, 120])]))) :: []) W := h1.tail.tail.tail.tail
  obtain ⟨a, s, hv, _⟩ := laid_sentinel h2 gErrSyntax gErrSyntaxType Tryd.underlying43 rowTP Tryd.underlying121 Tryd.underlying123 rfl rfl Tryd.underlying9 cellsTE cellsTS
  exact ⟨_, _, hv⟩
theorem errsOf {W : World} (h : laidMetH Tryd.prog Rows.namesReadsRow.laid W) : Errs W := ⟨ofErrSyntax h, ofErrRange h⟩
set_option maxRecDepth 100000 in
theorem contract (H : Type) (enc : TypeId × Value → H) (W : World) (base : Nat) (args : Array Value) (ds gs : List (DataW H)) (before : List MemPlace)
    (hval : ∀ (j : Nat) t v, Tryd.f4.params[j]? = some t → args[j]? = some v → Value.okWide Tryd.prog W .any base t v)
    (hW : DataW.Whole enc Tryd.prog Tryd.f4.params.toList Rows.namesReadsSpec.vars false W args.toList ds gs before)
    (hsz : (DataW.weightsEach Tryd.prog (Tryd.f4.params.toList ++ (OpenSpec.ofChange Rows.namesReadsSpec).bare.plain.varTypes Tryd.prog) (ds ++ gs)).all (· ≤ reachBytes) = true)
    (hL : laidMetH Tryd.prog Rows.namesReadsRow.laid W) :
    Calls Tryd.prog 4 args W fun e W' => ∃ v, e = .returned v ∧ Rows.namesReadsSpec.post enc Tryd.prog Tryd.f4 false true false false W args v W' := by
  have hW' := hW
  obtain ⟨p, q, hA0, hV, rfl, hfz, hnd⟩ := hW
  have hA : DataW.TrodAll enc Tryd.prog W 0 (fun _ => true) true Tryd.f4.params.toList args.toList ds p := hA0
  rw [Tryd.params4] at hA hval hsz
  obtain ⟨v0, vs0, d0, ds0, p0, q0, hargs, rfl, rfl, h0, r0⟩ := trodAll_cons hA
  obtain ⟨rfl, rfl, rfl⟩ := trodAll_nil r0
  obtain rfl : args = #[v0] := by cases args; simp_all
  obtain ⟨rfl, rfl⟩ := trodVars_none hV
  obtain ⟨a0, rfl, rfl, rfl, w0⟩ := open_string Tryd.underlying9 (hval 0 9 v0 rfl rfl) h0
  refine (walk a0 W w0 (tabOf hL) (errsOf hL)).mono fun e W' ⟨he, bel⟩ => ?_
  subst he
  exact ⟨_, rfl, _, _, _, [], _, [], hW', trodAll_mk1 (shut_bool Tryd.underlying4 _), (trodAll_cons_mk (shut_string Tryd.underlying9 w0) trodAll_mk0), rfl, bel.frame _, fun h => by cases h⟩
def cells_laid_math_bits_deBruijn32tab : Array Value := #[.int .u8 0, .int .u8 1, .int .u8 28, .int .u8 2, .int .u8 29, .int .u8 14, .int .u8 24, .int .u8 3, .int .u8 30, .int .u8 22, .int .u8 20, .int .u8 15, .int .u8 25, .int .u8 17, .int .u8 4, .int .u8 8, .int .u8 31, .int .u8 27, .int .u8 13, .int .u8 23, .int .u8 21, .int .u8 19, .int .u8 16, .int .u8 7, .int .u8 26, .int .u8 12, .int .u8 18, .int .u8 6, .int .u8 11, .int .u8 5, .int .u8 10, .int .u8 9]
def cells_laid_math_bits_deBruijn64tab : Array Value := #[.int .u8 0, .int .u8 1, .int .u8 56, .int .u8 2, .int .u8 57, .int .u8 49, .int .u8 28, .int .u8 3, .int .u8 61, .int .u8 58, .int .u8 42, .int .u8 50, .int .u8 38, .int .u8 29, .int .u8 17, .int .u8 4, .int .u8 62, .int .u8 47, .int .u8 59, .int .u8 36, .int .u8 45, .int .u8 43, .int .u8 51, .int .u8 22, .int .u8 53, .int .u8 39, .int .u8 33, .int .u8 30, .int .u8 24, .int .u8 18, .int .u8 12, .int .u8 5, .int .u8 63, .int .u8 55, .int .u8 48, .int .u8 27, .int .u8 60, .int .u8 41, .int .u8 37, .int .u8 16, .int .u8 46, .int .u8 35, .int .u8 44, .int .u8 21, .int .u8 52, .int .u8 32, .int .u8 23, .int .u8 11, .int .u8 54, .int .u8 26, .int .u8 40, .int .u8 15, .int .u8 34, .int .u8 20, .int .u8 31, .int .u8 10, .int .u8 25, .int .u8 14, .int .u8 19, .int .u8 9, .int .u8 13, .int .u8 8, .int .u8 7, .int .u8 6]
def cells_laid_internal_strconv_uint64pow10 : Array Value := #[.int .u64 1, .int .u64 10, .int .u64 100, .int .u64 1000, .int .u64 10000, .int .u64 100000, .int .u64 1000000, .int .u64 10000000, .int .u64 100000000, .int .u64 1000000000, .int .u64 10000000000, .int .u64 100000000000, .int .u64 1000000000000, .int .u64 10000000000000, .int .u64 100000000000000, .int .u64 1000000000000000, .int .u64 10000000000000000, .int .u64 100000000000000000, .int .u64 1000000000000000000, .int .u64 10000000000000000000]
def layOne (c : Array Value) : Obj → Obj
  | .cells _ t frozen => .cells c t frozen
  | o => o
theorem laid_met (os : Os) : laidMet Tryd.prog Rows.namesReadsRow.laid (World.forCall ({ World.holding Tryd.prog os ⟨#[.cells #[.string ⟨#[118, 97, 108, 117, 101, 32, 111, 117, 116, 32, 111, 102, 32, 114, 97, 110, 103, 101]⟩] 123, .cells #[.string ⟨#[105, 110, 118, 97, 108, 105, 100, 32, 115, 121, 110, 116, 97, 120]⟩] 123], #[], []⟩ with heap := ((((((World.holding Tryd.prog os ⟨#[.cells #[.string ⟨#[118, 97, 108, 117, 101, 32, 111, 117, 116, 32, 111, 102, 32, 114, 97, 110, 103, 101]⟩] 123, .cells #[.string ⟨#[105, 110, 118, 97, 108, 105, 100, 32, 115, 121, 110, 116, 97, 120]⟩] 123], #[], []⟩).heap.modify 4 (layOne cells_laid_math_bits_deBruijn32tab)).modify 5 (layOne cells_laid_math_bits_deBruijn64tab)).modify 0 (layOne cells_laid_internal_strconv_uint64pow10)).modify 3 (layOne #[.iface 121 (.pointer (some ⟨(World.holding Tryd.prog default ⟨#[], #[], []⟩).heap.size + 0, 0, none⟩))])).modify 2 (layOne #[.iface 121 (.pointer (some ⟨(World.holding Tryd.prog default ⟨#[], #[], []⟩).heap.size + 1, 0, none⟩))])) }) (fun _ _ => 0) ⟨#[], #[.string ByteArray.empty], []⟩).memory :=
  laidMet_of_run' 8 (by kernel_rfl) (by kernel_rfl)
theorem reads (os : Os) {H : Type} (enc : TypeId × Value → H) : ∃ places, DataW.whole enc Tryd.prog (World.forCall ({ World.holding Tryd.prog os ⟨#[.cells #[.string ⟨#[118, 97, 108, 117, 101, 32, 111, 117, 116, 32, 111, 102, 32, 114, 97, 110, 103, 101]⟩] 123, .cells #[.string ⟨#[105, 110, 118, 97, 108, 105, 100, 32, 115, 121, 110, 116, 97, 120]⟩] 123], #[], []⟩ with heap := ((((((World.holding Tryd.prog os ⟨#[.cells #[.string ⟨#[118, 97, 108, 117, 101, 32, 111, 117, 116, 32, 111, 102, 32, 114, 97, 110, 103, 101]⟩] 123, .cells #[.string ⟨#[105, 110, 118, 97, 108, 105, 100, 32, 115, 121, 110, 116, 97, 120]⟩] 123], #[], []⟩).heap.modify 4 (layOne cells_laid_math_bits_deBruijn32tab)).modify 5 (layOne cells_laid_math_bits_deBruijn64tab)).modify 0 (layOne cells_laid_internal_strconv_uint64pow10)).modify 3 (layOne #[.iface 121 (.pointer (some ⟨(World.holding Tryd.prog default ⟨#[], #[], []⟩).heap.size + 0, 0, none⟩))])).modify 2 (layOne #[.iface 121 (.pointer (some ⟨(World.holding Tryd.prog default ⟨#[], #[], []⟩).heap.size + 1, 0, none⟩))])) }) (fun _ _ => 0) ⟨#[], #[.string ByteArray.empty], []⟩).memory Tryd.f4.params.toList Rows.namesReadsSpec.vars false (#[.string ByteArray.empty] : Array Value).toList 8 = some ([.lit (.string [])], [], places) :=
  ⟨[], by kernel_rfl⟩
set_option maxRecDepth 100000 in
theorem lifted (os : Os) (started : os.Started) (H : Type) (enc : TypeId × Value → H) (F : Stop.Interp) :
    ReturnsInHanded {} Tryd.checked os 4 .any ((OpenSpec.ofChange Rows.namesReadsSpec).preRow enc Tryd.prog Tryd.f4 Rows.namesReadsRow.domain false Rows.namesReadsRow.laid) (((OpenSpec.ofChange Rows.namesReadsSpec).at F).post enc Tryd.prog Tryd.f4 false true false false) := by
  obtain ⟨places, hx⟩ := reads os enc
  refine returnsInHanded_of_row (C := Tryd.checked) (s := OpenSpec.ofChange Rows.namesReadsSpec) own started (by kernel_rfl) Tryd.func4
    (witness_row_at (enc := enc) (C := Tryd.checked) false ({ World.holding Tryd.prog os ⟨#[.cells #[.string ⟨#[118, 97, 108, 117, 101, 32, 111, 117, 116, 32, 111, 102, 32, 114, 97, 110, 103, 101]⟩] 123, .cells #[.string ⟨#[105, 110, 118, 97, 108, 105, 100, 32, 115, 121, 110, 116, 97, 120]⟩] 123], #[], []⟩ with heap := ((((((World.holding Tryd.prog os ⟨#[.cells #[.string ⟨#[118, 97, 108, 117, 101, 32, 111, 117, 116, 32, 111, 102, 32, 114, 97, 110, 103, 101]⟩] 123, .cells #[.string ⟨#[105, 110, 118, 97, 108, 105, 100, 32, 115, 121, 110, 116, 97, 120]⟩] 123], #[], []⟩).heap.modify 4 (layOne cells_laid_math_bits_deBruijn32tab)).modify 5 (layOne cells_laid_math_bits_deBruijn64tab)).modify 0 (layOne cells_laid_internal_strconv_uint64pow10)).modify 3 (layOne #[.iface 121 (.pointer (some ⟨(World.holding Tryd.prog default ⟨#[], #[], []⟩).heap.size + 0, 0, none⟩))])).modify 2 (layOne #[.iface 121 (.pointer (some ⟨(World.holding Tryd.prog default ⟨#[], #[], []⟩).heap.size + 1, 0, none⟩))])) }) #[.string ByteArray.empty] rfl (by kernel_rfl) (by kernel_rfl) (by kernel_rfl)
      (OpenSpec.preRow_of_cond 8 hx (by kernel_rfl) (fun k hk => by cases hk) (by kernel_rfl) (laid_met os))) ?_
  intro W base args ds gs before hval hW _ _ hsz hL _ _
  exact contract H enc W base args ds gs before hval hW hsz hL
theorem said : Rows.NamesReadsSaid :=
  OpenClaim.holds_of_cond 4 Tryd.f4 rfl rfl rfl rfl rfl rfl rfl ⟨rfl, rfl, rfl, rfl, rfl⟩ rfl rfl rfl rfl rfl (by kernel_rfl) Tryd.func4 (by kernel_rfl)
    (of_decide_eq_true (by kernel_rfl)) (by unfold Func.isWrapper; first | (rw [if_pos (by decide +kernel)]; kernel_rfl) | (rw [if_neg (by decide +kernel)]; exact ⟨rfl, rfl⟩))
    (fun os started H enc _ F => by rw [OpenClaim.pre_eq_preRow]; exact lifted os started H enc F)
theorem plain (f : FuncId) (fn : Func) (hf : Tryd.pinned.checked.prog.funcNamed "tropica/tropicalaw.NamesReads" = some f) (hfn : Tryd.pinned.checked.prog.funcs[f]? = some fn) :
    true = Tryd.pinned.checked.prog.looks [] ∧ ∀ (j : Nat) t, fn.params[j]? = some t → Tryd.pinned.checked.prog.wantsStandIn t = false := by
  obtain rfl : f = 4 := Option.some.inj ((show Tryd.prog.funcNamed "tropica/tropicalaw.NamesReads" = some 4 by kernel_rfl).symm.trans hf) |>.symm
  obtain rfl : fn = Tryd.f4 := (Option.some.inj (Tryd.func4.symm.trans hfn)).symm
  refine ⟨by kernel_rfl, fun j t ht => ?_⟩
  rw [Tryd.params4] at ht
  obtain rfl : t = 9 := by simpa using Array.mem_of_getElem? ht
  exact (show Tryd.prog.wantsStandIn 9 = false by kernel_rfl)
end Go.Proofs.YtljpbkkofalinaaDoor.namesReads
namespace Go.Proofs.YtljpbkkofalinaaDoor
theorem namesReads_card : Rows.NamesReadsCardSaid :=
  Claim7.holds_tied_plain_at .later [] _ _ _ _ namesReads.said (fun _ h => by cases h) (by kernel_rfl) (fun _ h => by cases h) namesReads_row_tie rfl ⟨rfl, rfl⟩ (by kernel_rfl) rfl namesReads.plain (by kernel_rfl)
#print axioms namesReads_card
end Go.Proofs.YtljpbkkofalinaaDoor
