/- The statement's own copy of a slice of integers, its comparison of two slices, and the reference's least of a list. -/
import Derived.Test.YtanibikfhnglkaaInts
import Derived.Test.YtanibikfhnglkaaWr
import Derived.WalkSmall
namespace Go.Proofs.Ytanibikfhnglkaa.Wt
open Go.ChangeShapes Go.WideShapes Go.ChangeAt Go.RowKit
open Go.Proofs.Ytanibikfhnglkaa.Pl
set_option linter.unusedVariables false

theorem infoInt : (Try.prog.info? 3).map (fun i => (i.zero, i.size, i.bytes)) = some (some (.int .i64 0), 1, 8) := by kernel_rfl

theorem Ints.ofOwn {w : World} {base : Nat} {e : TypeId} {v : Value} {n : Nat} {zs : List Int} (h : w.ownsRow base e 1 v n (zs.map (Value.int .i64))) : Ints .i64 w v zs := by
  have hlen : zs.length = n := by have := h.1; simpa using this
  rcases h.2 with ⟨hv, hn⟩ | ⟨g, cap, cur, hv, _⟩
  · exact .inl ⟨hv, List.eq_nil_of_length_eq_zero (by omega)⟩
  · subst hv
    refine .inr ⟨⟨g, 0, none⟩, cap, by rw [hlen], fun j hj => ?_⟩
    rw [Addr.add_lit, Nat.zero_add, h.cellAt j (by omega)]
    simp [List.getElem?_eq_getElem hj]

theorem ints_any (v : Value) (zs : List Int) (w : World) (h : Ints .i64 w v zs) (hr : zs.length * 8 ≤ 140737488351232) :
    Calls Try.prog 14 #[v] w fun e w' => ∃ v', e = .returned v' ∧ Ints .i64 w' v' zs ∧ Below w.heap.size w w' := by
  obtain ⟨i0, hi, hz0, hz1, hz2⟩ := info_parts infoInt
  rcases h with ⟨rfl, rfl⟩ | ⟨x, cap, rfl, hc⟩
  · go_enter Try.func14, Try.ntmps14
    go_wp2_with (first | (at_builtin; refine wpList_append_own_none rfl _ _ 26 rfl w.heap.size 3 i0 1 Try.underlying26 hi _ 0 [] rfl (World.ownsRow_nil _ _ _ _) rfl ?_))
    go_ret
    exact ⟨_, rfl, .inl ⟨rfl, rfl⟩, Below.refl _ _⟩
  · have c1 : ∀ j u, (zs.map (Value.int .i64))[j]? = some u → w.cell? (x.add j) = some u := by
      intro j u hj
      rw [List.getElem?_map] at hj
      have hl : j < zs.length := by
        rcases Nat.lt_or_ge j zs.length with h | h
        · exact h
        · rw [List.getElem?_eq_none h] at hj; simp at hj
      rw [hc j hl]
      rw [List.getElem?_eq_getElem hl] at hj ⊢
      simpa using hj
    have c2 : ∀ u ∈ zs.map (Value.int .i64), u.oneCell' = true := by
      intro u hu
      obtain ⟨_, _, rfl⟩ := List.mem_map.1 hu
      rfl
    have C1 : Hid (∀ j u, (zs.map (Value.int .i64))[j]? = some u → w.cell? (x.add j) = some u) := c1
    have C2 : Hid (∀ u ∈ zs.map (Value.int .i64), u.oneCell' = true) := c2
    have C0 : Hid ((zs.map (Value.int .i64)).length = zs.length * 1) := by show _ = _; simp
    clear c1 c2 hc
    go_enter Try.func14, Try.ntmps14
    go_wp2_with (first | (at_builtin; refine wpList_append_own _ rfl _ _ 26 rfl w.heap.size 3 i0 (.int .i64 0) 1 8 Try.underlying26 hi hz0 hz1 hz2 rfl (by decide) (.slice none 0 0) 0 [] rfl (World.ownsRow_nil _ _ _ _) x zs.length cap (zs.map (Value.int .i64)) rfl C0.out C1.out C2.out (by unfold maxLen; omega) (by omega) (Nat.le_refl _) ?_; intro v' w1 hown hgrow _))
    go_ret
    exact ⟨_, rfl, Ints.ofOwn (by simpa using hown), (Below.refl _ _).grown hgrow (Nat.le_refl _) (by intro k hk; simp [Value.ownBlock] at hk)⟩

theorem same_any (v1 v2 : Value) (zs : List Int) (w : World) (h1 : Ints .i64 w v1 zs) (h2 : Ints .i64 w v2 zs) (hm : zs.length ≤ maxLen) :
    Calls Try.prog 17 #[v1, v2] w fun e w' => e = .returned (.bool true) ∧ Below w.heap.size w w' := by
  unfold maxLen at hm
  by_cases hz : 0 < zs.length
  · obtain ⟨b, off, cap, rfl, hc⟩ := h1.plain hz
    obtain ⟨b2, off2, cap2, rfl, hc2⟩ := h2.plain hz
    clear h1 h2
    generalize hn : zs.length = n at *
    go_enter Try.func17, Try.ntmps17
    go_wp2
    go_loopw [5] (fun i wr => ∃ k : Nat, k ≤ n ∧ i = .int .i64 k ∧ Below w.heap.size w wr) (fun i _ => n - (intOf i).toNat)
    case atStart => exact ⟨0, Nat.zero_le _, rfl, Below.refl _ _⟩
    case round =>
      obtain ⟨k, hk, rfl, hb⟩ := hrel
      by_cases hlt : k < n
      · have g1 : wr.cell? ⟨b, off + k, none⟩ = some (.int .i64 (zs[k]?.getD 0)) := (hb.cell (World.block_lt_of_cell? _ _ (hc k hlt))).trans (hc k hlt)
        have g2 : wr.cell? ⟨b2, off2 + k, none⟩ = some (.int .i64 (zs[k]?.getD 0)) := (hb.cell (World.block_lt_of_cell? _ _ (hc2 k hlt))).trans (hc2 k hlt)
        clear hc hc2
        generalize zs[k]?.getD 0 = x at g1 g2
        go_wp2
        go_quiet (fail)
        go_wp2
        go_roundw
        case rel => exact ⟨k + 1, by omega, by go_num, below_drewN hb nq⟩
        case measure => simp [intOf]; omega
      · go_wp2
        go_ret
        exact ⟨rfl, hb⟩
  · obtain rfl : zs = [] := List.eq_nil_of_length_eq_zero (by omega)
    obtain ⟨a, cap, rfl⟩ := h1.empty
    obtain ⟨a2, cap2, rfl⟩ := h2.empty
    go_enter Try.func17, Try.ntmps17
    go_wp2
    refine wp_loop_rounds 1 ?_; rw [rounds_succ]
    go_wp2
    go_ret
    exact ⟨rfl, Below.refl _ _⟩

def goodTo (zs : List Int) (k : Nat) : Prop := allW (zs.take k) = true
theorem plusR_bad {a b : Int} (h : wtB b = false) : plusR a b = (0, 2) := by simp [plusR, h]
theorem plusR_good {a b : Int} (g : wtB a = true) (h : wtB b = true) : plusR a b = (min a b, 0) := by simp [plusR, g, h]
theorem minL_wt (zs : List Int) (h : allW zs = true) : wtB (minL zs) = true := by
  have key : ∀ (l : List Int) (m : Int), wtB m = true → l.all wtB = true → wtB (l.foldl min m) = true := by
    intro l
    induction l with
    | nil => intro m hm _; exact hm
    | cons x l ih =>
      intro m hm hl
      rw [List.all_cons, Bool.and_eq_true] at hl
      refine ih _ ?_ hl.2
      have h1 := wtB_true.1 hm
      have h2 := wtB_true.1 hl.1
      exact wtB_true.2 (by omega)
  exact key zs 1000000001 (by decide) h

set_option maxHeartbeats 1000000 in
theorem leastOf_some (b off cap : Nat) (zs : List Int) (w : World) (hz : 0 < zs.length) (hz2 : zs.length ≤ 400)
    (hc : ∀ i, i < zs.length → w.cell? ⟨b, off + i, none⟩ = some (.int .i64 (zs[i]?.getD 0))) :
    Calls Try.prog 16 #[.slice (some ⟨b, off, none⟩) zs.length cap] w fun e w' => e = .returned (.tuple #[.int .i64 (sumR zs).1, .int .i64 (sumR zs).2]) ∧ w = w' := by
  have HR : Hid (sumR zs = if allW zs = true then (minL zs, 0) else (0, 2)) := by show _ = _; unfold sumR; rw [if_neg (by omega)]
  generalize hn : zs.length = n at *
  have HN : Hid (zs.length = n) := hn
  clear hn
  have hl : ¬ (400 : Int) < (n : Int) := by omega
  go_enter Try.func16, Try.ntmps16
  go_wp2
  go_loop [4, 5] (fun m i => ∃ k : Nat, k ≤ n ∧ i = .int .i64 k ∧ m = .int .i64 (minL (zs.take k)) ∧ goodTo zs k) (fun _ i => n - (intOf i).toNat)
  case atStart => exact ⟨0, Nat.zero_le _, rfl, rfl, rfl⟩
  case round =>
    obtain ⟨k, hk, rfl, rfl, hg⟩ := hrel
    by_cases hlt : k < n
    · have g := hc k hlt
      have hs := minL_snoc zs k (by rw [HN.out]; exact hlt)
      have ha := allW_snoc zs k (by rw [HN.out]; exact hlt)
      have hf := allW_false_of zs k (by rw [HN.out]; exact hlt)
      have hm := minL_wt _ hg
      generalize zs[k]?.getD 0 = x at g hs ha hf
      have HS : Hid (minL (zs.take (k + 1)) = min (minL (zs.take k)) x) := hs
      have HM : Hid (wtB (minL (zs.take k)) = true) := hm
      have HA : Hid (allW (zs.take (k + 1)) = (allW (zs.take k) && wtB x)) := ha
      have HG : Hid (allW (zs.take k) = true) := hg
      clear hc hs ha hg hm
      generalize minL (zs.take k) = m at HS HM
      rcases bool_cases (wtB x) with hx | hx
      · have HP : Hid (plusR m x = (min m x, 0)) := plusR_good HM.out hx
        have HX : Hid (wtB x = true) := hx
        clear hx hf
        generalize hmm : min m x = m' at HP HS
        clear hmm
        go_wp2_with (first | (go_at_call 9; refine (added_any _ _ _).mono ?_; rw [HP.out]; rintro e w' ⟨rfl, rfl⟩))
        go_round
        case rel => exact ⟨k + 1, by omega, by go_num, by rw [HS.out], by show _ = _; rw [HA.out, HG.out, HX.out]; rfl⟩
        case measure => simp [intOf]; omega
      · have HP : Hid (plusR m x = (0, 2)) := plusR_bad hx
        have HQ : Hid (sumR zs = (0, 2)) := by show _ = _; rw [HR.out, hf hx]; rfl
        clear hx hf
        go_wp2_with (first | (go_at_call 9; refine (added_any _ _ _).mono ?_; rw [HP.out]; rintro e w' ⟨rfl, rfl⟩))
        go_ret2
        exact ⟨ret_pair HQ.out, rfl⟩
    · have hkl : k = zs.length := by rw [HN.out]; omega
      have hg2 : allW zs = true := by unfold goodTo at hg; rw [hkl, List.take_length] at hg; exact hg
      have hl2 : minL (zs.take k) = minL zs := by rw [hkl, List.take_length]
      have HQ : Hid (sumR zs = (minL zs, 0)) := by show _ = _; rw [HR.out, if_pos hg2]
      rw [hl2]
      clear hl2 hkl hg hg2
      go_wp2
      go_ret2
      exact ⟨ret_pair HQ.out, rfl⟩

theorem leastOf_any (v : Value) (zs : List Int) (w : World) (h : Ints .i64 w v zs) (hm : zs.length ≤ maxLen) :
    Calls Try.prog 16 #[v] w fun e w' => e = .returned (.tuple #[.int .i64 (sumR zs).1, .int .i64 (sumR zs).2]) ∧ w = w' := by
  by_cases hz : 0 < zs.length
  · obtain ⟨b, off, cap, rfl, hc⟩ := h.plain hz
    by_cases hl : zs.length ≤ 400
    · exact leastOf_some b off cap zs w hz hl hc
    · have HQ : Hid (sumR zs = (0, 1)) := by show _ = _; unfold sumR; rw [if_pos (by omega)]
      have hl' : (400 : Int) < (zs.length : Int) := by omega
      clear hc h
      go_enter Try.func16, Try.ntmps16
      go_wp2
      go_ret2
      exact ⟨ret_pair HQ.out, rfl⟩
  · obtain rfl : zs = [] := List.eq_nil_of_length_eq_zero (by omega)
    obtain ⟨a, cap, rfl⟩ := h.empty
    go_enter Try.func16, Try.ntmps16
    go_wp2
    refine wp_loop_rounds 1 ?_; rw [rounds_succ]
    go_wp2
    go_ret2
    exact ⟨ret_pair (by decide), rfl⟩
end Go.Proofs.Ytanibikfhnglkaa.Wt
