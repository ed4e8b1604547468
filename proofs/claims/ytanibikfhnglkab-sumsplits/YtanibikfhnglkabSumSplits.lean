/- The statement SumSplits: the least of two lists is the lesser of what is the least in each, for every two lists of numbers, without any condition. -/
import Derived.Test.YtanibikfhnglkabKw
import Derived.ShutString
import Derived.ChangeOld
import Derived.Below
namespace Go.Proofs.Ytanibikfhnglkab.sumSplits
open Go.ChangeShapes Go.WideShapes Go.ChangeAt Go.RowKit
open Go.Proofs.Ytanibikfhnglkab.Pl Go.Proofs.Ytanibikfhnglkab.Wt
set_option linter.unusedVariables false

theorem own : ownKnob Try.prog.godebug = none := by kernel_rfl
theorem laidOut : laidOutB Try.prog = true := by kernel_rfl

theorem wts_all (zs : List Int) : allW (wts zs) = true := by
  unfold allW wts
  rw [List.all_eq_true]
  intro x hx
  obtain ⟨n, _, rfl⟩ := List.mem_map.1 hx
  have := someI_up n
  exact wtB_true.2 (by omega)
theorem wts_len (zs : List Int) : (wts zs).length ≤ 100 := by
  unfold wts
  rw [List.length_map, List.length_take]; omega
theorem minL_wt (zs : List Int) (h : allW zs = true) : wtB (minL zs) = true := by
  have key : ∀ (l : List Int) (m : Int), wtB m = true → l.all wtB = true → wtB (l.foldl min m) = true := by
    intro l
    induction l with
    | nil => intro m hm _; exact hm
    | cons x l ih =>
      intro m hm hl
      rw [List.all_cons, Bool.and_eq_true] at hl
      refine ih _ ?_ hl.2
      have h1 := wtB_true.1 hm
      have h2 := wtB_true.1 hl.1
      exact wtB_true.2 (by omega)
  exact key zs 1000000001 (by decide) h
theorem foldl_min (l : List Int) : ∀ m n : Int, l.foldl min (min m n) = min m (l.foldl min n) := by
  induction l with
  | nil => intro m n; rfl
  | cons x l ih => intro m n; rw [List.foldl_cons, List.foldl_cons, Int.min_assoc, ih]
theorem foldl_le (l : List Int) : ∀ m : Int, l.foldl min m ≤ m ∧ ∀ x ∈ l, l.foldl min m ≤ x := by
  induction l with
  | nil => intro m; exact ⟨Int.le_refl _, fun x hx => by simp at hx⟩
  | cons y l ih =>
    intro m
    rw [List.foldl_cons]
    have h := ih (min m y)
    refine ⟨by omega, fun x hx => ?_⟩
    rcases List.mem_cons.1 hx with rfl | hx
    · omega
    · exact h.2 x hx
theorem foldl_mem (l : List Int) : ∀ m : Int, l.foldl min m = m ∨ l.foldl min m ∈ l := by
  induction l with
  | nil => intro m; exact .inl rfl
  | cons y l ih =>
    intro m
    rw [List.foldl_cons]
    rcases ih (min m y) with h | h
    · rw [h]
      by_cases c : m ≤ y
      · exact .inl (by omega)
      · exact .inr (by rw [show min m y = y from by omega]; exact List.mem_cons_self)
    · exact .inr (List.mem_cons_of_mem _ h)
theorem minL_append (a b : List Int) : minL (a ++ b) = mn (minL a) (minL b) := by
  unfold minL mn
  have h := (foldl_le a 1000000001).1
  rw [List.foldl_append]
  generalize a.foldl min 1000000001 = x at h ⊢
  have e := foldl_min b x 1000000001
  rw [show min x 1000000001 = x from by omega] at e
  exact e
theorem sumR_good (l : List Int) (h : allW l = true) (g : l.length ≤ 400) : sumR l = (minL l, 0) := by
  unfold sumR
  rw [if_neg (by omega), if_pos h]
theorem allW_append (a b : List Int) (h : allW a = true) (g : allW b = true) : allW (a ++ b) = true := by
  unfold allW at *
  rw [List.all_append, h, g]; rfl
def hadTo (l : List Int) (m : Int) (k : Nat) : Bool := (l.take k).any (fun x => x == m)
theorem had_snoc (l : List Int) (m : Int) (k : Nat) (h : k < l.length) : hadTo l m (k + 1) = (hadTo l m k || (l[k]?.getD 0 == m)) := by
  unfold hadTo
  rw [take_snoc l k h]; simp
theorem had_all (l : List Int) : (hadTo l (minL l) l.length || (minL l == 1000000001)) = true := by
  rcases foldl_mem l 1000000001 with h | h
  · have : (minL l == 1000000001) = true := beq_iff_eq.2 h
    rw [this]; simp
  · have : hadTo l (minL l) l.length = true := by
      unfold hadTo
      rw [List.take_length, List.any_eq_true]
      exact ⟨minL l, h, by simp⟩
    rw [this]; rfl

structure Facts (ps qs : List Int) (m n : Int) : Prop where
  la : ps.length ≤ 100
  lb : qs.length ≤ 100
  sa : sumR ps = (m, 0)
  sb : sumR qs = (n, 0)
  sc : sumR (ps ++ qs) = (mn m n, 0)
  ok : okP m n
  le : ∀ x ∈ ps, m ≤ x
  al : (hadTo ps m ps.length || (m == 1000000001)) = true
  sn : ∀ k, k < ps.length → hadTo ps m (k + 1) = (hadTo ps m k || (ps[k]?.getD 0 == m))

theorem facts (xs ys : List Int) : Facts (wts xs) (wts ys) (minL (wts xs)) (minL (wts ys)) := by
  have ha := wts_all xs
  have hb := wts_all ys
  have la := wts_len xs
  have lb := wts_len ys
  refine ⟨la, lb, sumR_good _ ha (by omega), sumR_good _ hb (by omega), ?_, ⟨wtB_true.1 (minL_wt _ ha), wtB_true.1 (minL_wt _ hb)⟩, (foldl_le (wts xs) 1000000001).2, had_all _, fun k hk => had_snoc _ _ k hk⟩
  rw [sumR_good _ (allW_append _ _ ha hb) (by rw [List.length_append]; omega), minL_append]

set_option maxHeartbeats 4000000 in
theorem core (v u : Value) (xs ys ps qs : List Int) (m n : Int) (w : World) (h1 : Ints .i64 w v xs) (h2 : Ints .i64 w u ys) (l1 : xs.length ≤ maxLen) (l2 : ys.length ≤ maxLen)
    (f1 : ∀ n ∈ xs, (Lit.int .i64 n).wf = true) (f2 : ∀ n ∈ ys, (Lit.int .i64 n).wf = true) (HW1 : Hid (wts xs = ps)) (HW2 : Hid (wts ys = qs)) (HF : Facts ps qs m n) :
    Calls Try.prog 5 #[v, u] w fun e w' => e = .returned (.bool true) ∧ Below w.heap.size w w' := by
  obtain ⟨i0, hi, hz0, hz1, hz2⟩ := info_parts infoInt
  have HX : Hid (Ints .i64 w v xs) := h1
  have HY : Hid (Ints .i64 w u ys) := h2
  have HL1 : Hid (xs.length ≤ maxLen) := l1
  have HL2 : Hid (ys.length ≤ maxLen) := l2
  have HF1 : Hid (∀ n ∈ xs, (Lit.int .i64 n).wf = true) := f1
  have HF2 : Hid (∀ n ∈ ys, (Lit.int .i64 n).wf = true) := f2
  clear h1 h2 l1 l2 f1 f2
  have la := HF.la
  have lb := HF.lb
  have eq1 : (mn m n != mn m n) = false := by simp
  go_enter Try.func5, Try.ntmps5
  go_wp2_with fail
  refine (weights_any _ xs _ HX.out HL1.out HF1.out).mono ?_
  rw [HW1.out]
  rintro e w1 ⟨v1, rfl, hI1, hb1⟩
  have HI1 : Hid (Ints .i64 w1 v1 ps) := hI1
  have HB1 : Hid (Below w.heap.size w w1) := hb1
  clear hI1 hb1
  go_wp2_with fail
  refine (weights_any _ ys _ (HY.out.later HB1.out) HL2.out HF2.out).mono ?_
  rw [HW2.out]
  rintro e w2 ⟨v2, rfl, hI2, hb2⟩
  have HI2 : Hid (Ints .i64 w2 v2 qs) := hI2
  have HI1' : Hid (Ints .i64 w2 v1 ps) := HI1.out.later hb2
  have HB2 : Hid (Below w.heap.size w w2) := bel HB1.out hb2
  clear hI2 hb2 HI1 HB1
  go_wp2_with fail
  refine (sum_any _ ps _ HI1'.out (by unfold maxLen; omega)).mono ?_
  rw [HF.sa]
  rintro e w3 ⟨rfl, rfl⟩
  go_wp2_with fail
  refine (sum_any _ qs _ HI2.out (by unfold maxLen; omega)).mono ?_
  rw [HF.sb]
  rintro e w3 ⟨rfl, rfl⟩
  go_wp2_with (first
    | (at_builtin; refine wpList_append_ints .i64 rfl (.const (.slice none 0 0)) (.tmp 30) 29 rfl w2.heap.size 3 i0 (.int .i64 0) 8 Try.underlying29 hi hz0 hz1 hz2 rfl (.slice none 0 0) 0 [] rfl (World.ownsRow_nil _ _ _ _) _ ps rfl HI1'.out (by unfold maxLen; omega) (by omega) (Nat.le_refl _) ?_; intro v3 w3 hown3 hb3)
    | (at_builtin; refine wpList_append_ints .i64 rfl (.tmp 31) (.tmp 32) 29 rfl w2.heap.size 3 i0 (.int .i64 0) 8 Try.underlying29 hi hz0 hz1 hz2 rfl v3 _ _ rfl hown3 _ qs rfl (HI2.out.later hb3) (by unfold maxLen; omega) (by omega) (hb3.size) ?_; intro v4 w4 hown4 hb4))
  have HI4 : Hid (Ints .i64 w4 v4 (ps ++ qs)) := by
    refine Ints.ofOwn (base := w2.heap.size) (e := 3) (n := 0 + ps.length + qs.length) ?_
    simpa using hown4
  have HB4 : Hid (Below w2.heap.size w2 w4) := hb3.trans hb4
  clear hown3 hown4 hb3 hb4
  refine (sum_any _ (ps ++ qs) _ HI4.out (by unfold maxLen; rw [List.length_append]; omega)).mono ?_
  rw [HF.sc]
  rintro e w5 ⟨rfl, rfl⟩
  go_wp2_with (first | (go_at_call 7; refine (plusH _ _ w4 _ (Below.refl _ _) HF.ok).mono ?_; rintro e w5 ⟨rfl, hb5⟩))
  have HB5 : Hid (Below w.heap.size w w5) := bel (bel HB2.out HB4.out) hb5
  have hI : Ints .i64 w5 v1 ps := (HI1'.out.later HB4.out).later hb5
  clear hb5 HI1' HI2 HI4 HB2 HB4
  by_cases hne : 0 < ps.length
  · obtain ⟨b, off, cap, hv1, hc⟩ := hI.plain hne
    subst hv1
    clear hI
    generalize hk : ps.length = np at *
    have HK : Hid (ps.length = np) := hk
    clear hk
    go_loop [13, 14] (fun d i => ∃ k : Nat, k ≤ np ∧ i = .int .i64 k ∧ d = .bool (hadTo ps m k)) (fun _ i => np - (intOf i).toNat)
    case atStart => exact ⟨0, Nat.zero_le _, rfl, rfl⟩
    case round =>
      obtain ⟨k, hk, rfl, rfl⟩ := hrel
      by_cases hlt : k < np
      · have g := hc k hlt
        have hl : k < ps.length := by rw [HK.out]; exact hlt
        have hxm : m ≤ ps[k]?.getD 0 := by rw [List.getElem?_eq_getElem hl]; exact HF.le _ (List.getElem_mem hl)
        have HS : Hid (hadTo ps m (k + 1) = (hadTo ps m k || (ps[k]?.getD 0 == m))) := HF.sn k hl
        clear hl hc
        generalize ps[k]?.getD 0 = x at g hxm HS
        generalize hadTo ps m k = d at HS
        cases d
        · go_wp2
          go_round
          case rel => exact ⟨k + 1, by omega, by go_num, by rw [HS.out]; rfl⟩
          case measure => simp [intOf]; omega
        · go_wp2
          go_round
          case rel => exact ⟨k + 1, by omega, by go_num, by rw [HS.out]; rfl⟩
          case measure => simp [intOf]; omega
      · have hkn : k = ps.length := by rw [HK.out]; omega
        have hal := HF.al
        rw [← hkn] at hal
        clear hkn hc
        generalize hadTo ps m k = d at hal
        cases d
        · have hm : (m == 1000000001) = true := by simpa using hal
          clear hal
          go_wp2
          go_ret
          exact ⟨rfl, HB5.out⟩
        · clear hal
          go_wp2
          go_ret
          exact ⟨rfl, HB5.out⟩
  · obtain rfl : ps = [] := List.eq_nil_of_length_eq_zero (by omega)
    obtain ⟨a, cap, hv1⟩ := hI.empty
    subst hv1
    have hm : (m == 1000000001) = true := by simpa [hadTo] using HF.al
    clear hI
    refine wp_loop_rounds 1 ?_; rw [rounds_succ]
    go_wp2
    go_ret
    exact ⟨rfl, HB5.out⟩

theorem walk (a0 : Option Addr) (len0 cap0 : Nat) (z0 : List Int) (a1 : Option Addr) (len1 cap1 : Nat) (z1 : List Int) (w : World) (w0 : IsRow .i64 w a0 len0 cap0 z0 ∧ cap0 * 8 ≤ 140737488351232) (w1 : IsRow .i64 w a1 len1 cap1 z1 ∧ cap1 * 8 ≤ 140737488351232) :
    Calls Try.prog 5 #[.slice a0 len0 cap0, .slice a1 len1 cap1] w fun e w' => e = .returned (.bool true) ∧ Below w.heap.size w w' := by
  obtain ⟨h1, h2, h3⟩ := Ints.ofRow w0.1
  obtain ⟨g1, g2, g3⟩ := Ints.ofRow w1.1
  have wf0 : ∀ n ∈ z0, (Lit.int .i64 n).wf = true := IsRow.wf w0.1
  have wf1 : ∀ n ∈ z1, (Lit.int .i64 n).wf = true := IsRow.wf w1.1
  exact core _ _ _ _ _ _ _ _ w h1 g1 (by have := w0.2; unfold maxLen; omega) (by have := w1.2; unfold maxLen; omega) (fun n hn => wf0 n (List.mem_of_mem_take hn)) (fun n hn => wf1 n (List.mem_of_mem_take hn)) rfl rfl (facts _ _)

set_option maxRecDepth 100000 in
theorem lifted (os : Os) (started : os.Started) (H : Type) (enc : TypeId × Value → H) :
    ReturnsInHanded {} Try.checked os 5 .any (Rows.sumSplitsSpec.pre6 enc Try.prog Try.f5 Rows.sumSplitsRow.domain false) (Rows.sumSplitsSpec.post enc Try.prog Try.f5 false true false false) := by
  refine returnsInHanded_of_change_sized (C := Try.checked) own started (by kernel_rfl) Try.func5
    (ChangeSpec.witness6 (enc := enc) (C := Try.checked) false ⟨#[], #[.slice none 0 0, .slice none 0 0], []⟩ 8 (by kernel_rfl) (by kernel_rfl) (by kernel_rfl) (by kernel_rfl)) ?_
  intro W base args ds gs before hval0 hW hcnd hsz0 _
  have hsz : (DataW.weightsEach Try.prog (Try.f5.params.toList ++ Rows.sumSplitsSpec.plain.varTypes Try.prog) (ds ++ gs)).all (· ≤ reachBytes) = true := hsz0
  have hval : ∀ (j : Nat) t v, Try.f5.params[j]? = some t → args[j]? = some v → Value.okWide Try.prog W .any base t v := hval0
  have hW' := hW
  obtain ⟨p, q, hA0, hV, rfl, hfz, hnd⟩ := hW
  have hA : DataW.TrodAll enc Try.prog W 0 (fun _ => true) true Try.f5.params.toList args.toList ds p := hA0
  rw [Try.params5] at hA hval hsz
  obtain ⟨v0, vs0, d0, ds0, p0, q0, hargs, rfl, rfl, h0, r0⟩ := trodAll_cons hA
  obtain ⟨v1, vs1, d1, ds1, p1, q1, rfl, rfl, rfl, h1, r1⟩ := trodAll_cons r0
  obtain ⟨rfl, rfl, rfl⟩ := trodAll_nil r1
  obtain rfl : args = #[v0, v1] := by cases args; simp_all
  obtain ⟨rfl, rfl⟩ := trodVars_none hV
  obtain ⟨a0, len0, cap0, rfl⟩ := okWide_slice Try.underlying29 (hval 0 29 v0 rfl rfl)
  have k0 := h0
  have lt0 : ∀ x ∈ p0, x.block < W.heap.size := by obtain ⟨m, hm⟩ := k0; exact DataW.trod_lt m _ _ _ hm
  obtain ⟨z0, w0⟩ : ∃ zs, IsRow .i64 W a0 len0 cap0 zs ∧ cap0 * 8 ≤ 140737488351232 := by
    obtain ⟨fuel, hf⟩ := h0
    rcases open_ints Try.underlying29 Try.underlying3 (by kernel_rfl) hf with ⟨hcs, _⟩ | ⟨x, l, c, zs, hcs, _, hl, hm, hz, hx, hcell, hwz⟩
    · simp [Value.cells] at hcs
      obtain ⟨rfl, rfl, rfl⟩ := hcs
      exact ⟨[], .inl ⟨rfl, rfl, rfl, rfl⟩, by omega⟩
    · have hd := congrArg Prod.fst hx
      have hsw := sized_slice hsz (j := 0) (t := 29) (e := 3) rfl (congrArg some hd) Try.underlying29
      have hby : Try.prog.bytesOf 3 = 8 := by kernel_rfl
      rw [hby] at hsw
      simp [Value.cells] at hcs
      obtain ⟨rfl, rfl, rfl⟩ := hcs
      have hz' : zs.length = cap0 := by simpa using hz
      simp only [lits, List.length_map, List.length_take, List.length_drop, reachBytes] at hsw
      exact ⟨zs, .inr ⟨_, rfl, hl, hm, hz', hcell, hwz⟩, by omega⟩
  obtain ⟨a1, len1, cap1, rfl⟩ := okWide_slice Try.underlying29 (hval 1 29 v1 rfl rfl)
  have k1 := h1
  have lt1 : ∀ x ∈ p1, x.block < W.heap.size := by obtain ⟨m, hm⟩ := k1; exact DataW.trod_lt m _ _ _ hm
  obtain ⟨z1, w1⟩ : ∃ zs, IsRow .i64 W a1 len1 cap1 zs ∧ cap1 * 8 ≤ 140737488351232 := by
    obtain ⟨fuel, hf⟩ := h1
    rcases open_ints Try.underlying29 Try.underlying3 (by kernel_rfl) hf with ⟨hcs, _⟩ | ⟨x, l, c, zs, hcs, _, hl, hm, hz, hx, hcell, hwz⟩
    · simp [Value.cells] at hcs
      obtain ⟨rfl, rfl, rfl⟩ := hcs
      exact ⟨[], .inl ⟨rfl, rfl, rfl, rfl⟩, by omega⟩
    · have hd := congrArg Prod.fst hx
      have hsw := sized_slice hsz (j := 1) (t := 29) (e := 3) rfl (congrArg some hd) Try.underlying29
      have hby : Try.prog.bytesOf 3 = 8 := by kernel_rfl
      rw [hby] at hsw
      simp [Value.cells] at hcs
      obtain ⟨rfl, rfl, rfl⟩ := hcs
      have hz' : zs.length = cap1 := by simpa using hz
      simp only [lits, List.length_map, List.length_take, List.length_drop, reachBytes] at hsw
      exact ⟨zs, .inr ⟨_, rfl, hl, hm, hz', hcell, hwz⟩, by omega⟩
  clear hA0 hval0 hsz0
  refine (walk a0 len0 cap0 z0 a1 len1 cap1 z1 W w0 w1).mono fun e W' ⟨he, bel⟩ => ?_
  subst he
  exact ⟨_, rfl, _, _, _, [], _, [], hW', trodAll_mk1 (shut_bool Try.underlying4 _), (trodAll_cons_mk (Below.trod laidOut (by kernel_rfl) (of_decide_eq_true (by kernel_rfl)) k0 bel lt0) (trodAll_cons_mk (Below.trod laidOut (by kernel_rfl) (of_decide_eq_true (by kernel_rfl)) k1 bel lt1) trodAll_mk0)), rfl, bel.frame _, fun h => by cases h⟩
end Go.Proofs.Ytanibikfhnglkab.sumSplits
namespace Go.Proofs.Ytanibikfhnglkab
theorem sumSplits_holds : Rows.SumSplitsSaid :=
  OpenClaim.holds_of_wide 5 Try.f5 rfl rfl rfl rfl rfl rfl rfl ⟨rfl, rfl, rfl, rfl, rfl⟩ rfl rfl rfl rfl rfl (by kernel_rfl) Try.func5 (by kernel_rfl)
    (of_decide_eq_true (by kernel_rfl)) (by unfold Func.isWrapper; first | (rw [if_pos (by decide +kernel)]; kernel_rfl) | (rw [if_neg (by decide +kernel)]; exact ⟨rfl, rfl⟩))
    (fun os started H enc _ => sumSplits.lifted os started H enc)
#print axioms sumSplits_holds
end Go.Proofs.Ytanibikfhnglkab
